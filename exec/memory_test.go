package exec_test

import (
	"bytes"
	"slices"
	"testing"

	"mezzotint/api"
	"mezzotint/exec"
)

// R4: the program and the names that are handed in are not changed, spare room included, and not kept.
func TestHandedIn(t *testing.T) {
	room := []byte("1 { 2 paint } exec (abc) add spare spare")
	program := room[:len("1 { 2 paint } exec (abc)")]
	others := append(make([]string, 0, 5), "paint", "show")
	before := bytes.Clone(room)
	m, e := exec.New(small, program, others...)
	if e != api.OK || !bytes.Equal(room, before) || !slices.Equal(others[:5], []string{"paint", "show", "", "", ""}) {
		t.Fatalf("error %d, %q, %q", e, room, others[:5])
	}
	for i := range room {
		room[i] = ')'
	}
	clear(others)
	s := finish(m)
	if got := outcome(m, s); got != "1 2 ?paint" {
		t.Errorf("%s", got)
	}
	m.Answer(api.OK)
	if got := outcome(m, finish(m)); got != "1 2 (abc)" {
		t.Errorf("%s", got)
	}
	for _, c := range room {
		if c != ')' {
			t.Fatalf("%q", room)
		}
	}
}

// R4: what a program does to its own text as a string is no matter to what was handed in.
func TestWrittenTokens(t *testing.T) {
	program := []byte("(abc) dup 0 65 put")
	before := bytes.Clone(program)
	m, e := exec.New(small, program)
	if e != api.OK {
		t.Fatal(e)
	}
	if got := outcome(m, finish(m)); got != "(Abc)" || !bytes.Equal(program, before) {
		t.Errorf("%s, %q", got, program)
	}
}

// R5: the same again has the same answers; two machines have nothing of one another.
func TestTheSameAgain(t *testing.T) {
	program := "/a 5 def [ 1 2 3 ] { a mul } forall << /x (abc) >> { 1 0 div } stopped save { add paint } bind exec"
	var first []string
	for range 3 {
		m, other := machine(t, small, program, "paint"), machine(t, small, "/a 7 def /mul { 9 } def /paint 3 def a paint", "paint")
		var all []string
		for range m.Steps() + 200 {
			s := m.Step()
			all = append(all, outcome(m, s))
			other.Step()
			if s.Kind == exec.Asks {
				m.Answer(api.OK)
			}
		}
		if first == nil {
			first = all
		}
		if !slices.Equal(all, first) {
			t.Errorf("%q\nnot %q", all[len(all)-1], first[len(first)-1])
		}
		if got := outcome(other, finish(other)); got != "7 3" {
			t.Errorf("the other one: %s", got)
		}
	}
}

// R5: an error leaves nothing behind for the next operator.
func TestBehindErrors(t *testing.T) {
	check(t, limit(func(l *api.Limits) { l.Operands = 8 }),
		example{"500 { { 1 0 div } stopped clear } repeat 1 2 add", "3"},
		example{"500 { { { 7 foo } loop } stopped clear } repeat countexecstack", "1"},
		example{"500 { { 1 1 4 { stop } for } stopped clear } repeat countexecstack", "1"},
		example{"500 { { 1 { ( ) } cvx exec } stopped clear } repeat countexecstack", "1"},
		example{"500 { { end } stopped clear } repeat countdictstack", "2"},
	)
}
