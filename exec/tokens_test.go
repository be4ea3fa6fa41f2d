package exec_test

import (
	"strconv"
	"strings"
	"testing"

	"mezzotint/api"
	"mezzotint/exec"
)

// The words of chapter 11: what each token does.
func TestTokens(t *testing.T) {
	check(t, small,
		example{"", ""},
		example{" % 1 2 add\n", ""},
		example{"1 -5 16#ff 1.5 -.5 2.0 1e2", "1 -5 255 1.5 -0.5 2.0 100.0"},
		example{"(abc) () <41 42> (a(b)\\051)", "(abc) () (AB) (a(b)))"},
		example{"/abc / /1 /add", "/abc / /1 /add"},
		example{"{ }", "{}"},
		example{"{ 1 (a) /b c 2.5 { d { } } [ ] << >> }", "{1 (a) /b c 2.5 {d {}} [ ] << >>}"},
		example{"{1}{2}3(4)", "{1} {2} 3 (4)"},
		example{"1 2 add", "3"},
		example{"1[2]3", "1 [2] 3"},
		example{"<</a 1>>", "1<</a 1>>"},
		example{"/x 5 def //x { //x x }", "5 {5 x}"},
		example{"/x { 1 2 } def //x { //x }", "{1 2} {{1 2}}"},
		example{"//add { //add //true }", "<add> {<add> true}"},
		example{"/x /y cvx def //x { //x } 1 2 //add", "y {y} 1 2 <add>"},
		example{"/x /add cvx def //x", "add"},
	)
}

// Each string is a new one, of a procedure's too, in which it is the same one each time.
func TestNewStrings(t *testing.T) {
	check(t, small,
		example{"(ab) (ab) dup 0 88 put", "(ab) (Xb)"},
		example{"2 { (ab) dup 0 88 put } repeat", "(Xb) (Xb)"},
		example{"/f { (ab) } def f 0 88 put f", "(Xb)"},
		example{"2 { (1) } repeat 0 50 put", "(2)"},
		example{"/f { { 1 } } def f 0 2 put f exec", "2"},
	)
	m := machine(t, small, "(12345678) (123456789) () { 1 2 (a) { } }")
	free := m.Store().Free()
	for i, cells := range []int{2, 3, 1, 2 + 1 + 5} {
		m.Step()
		free -= cells
		if m.Store().Free() != free {
			t.Errorf("token %d: %d cells are left, not %d", i, m.Store().Free(), free)
		}
	}
	finish(m)
	for _, o := range m.Operands().All() {
		if o.Access != api.Unlimited || o.From != 0 || o.Exec != (o.Kind == api.Array) {
			t.Errorf("%+v", o)
		}
	}
}

// P11.1: what is wrong with a token is told as scan's, but an undefined name.
func TestWrongTokens(t *testing.T) {
	check(t, small,
		example{"5 (a", "5 !SyntaxError scan"},
		example{"5 )", "5 !SyntaxError scan"},
		example{"5 <4x>", "5 !SyntaxError scan"},
		example{"5 >", "5 !SyntaxError scan"},
		example{"5 }", "5 !SyntaxError scan"},
		example{"5 } 6", "5 !SyntaxError scan"},
		example{"5 {", "5 !SyntaxError scan"},
		example{"5 { 1 2", "5 !SyntaxError scan"},
		example{"5 { { }", "5 !SyntaxError scan"},
		example{"5 { } }", "5 {} !SyntaxError scan"},
		example{"5 { (a }", "5 !SyntaxError scan"},
		example{"5 { ) }", "5 !SyntaxError scan"},
		example{"99999999999", "!LimitCheck scan"},
		example{"{ 99999999999 }", "!LimitCheck scan"},
		example{strings.Repeat("n", 128), "!LimitCheck scan"},
		example{"/" + strings.Repeat("n", 128), "!LimitCheck scan"},
		example{"{ //" + strings.Repeat("n", 128) + " }", "!LimitCheck scan"},
		example{strings.Repeat("n", 127), "!Undefined " + strings.Repeat("n", 127)},
		example{"5 foo", "5 !Undefined foo"},
		example{"5 //foo", "5 !Undefined foo"},
		example{"5 { //foo }", "5 !Undefined foo"},
		example{"5 { { //foo } ) }", "5 !Undefined foo"},
		example{"5 { { ) } //foo }", "5 !SyntaxError scan"},
		example{"5 { /foo foo } //foo", "5 {/foo foo} !Undefined foo"},
		example{"5 //", "5 !Undefined"},
		example{"{ (a } stopped", "!SyntaxError scan"},
		example{"({ a) cvx stopped (b)", "true (b)"},
		example{"(1 2 ) cvx stopped } 3", "1 2 false !SyntaxError scan"},
		example{"(1 2 } 3) cvx stopped", "1 2 true"},
		example{"(1 2 99999999999 3) cvx stopped", "1 2 true"},
		example{"(1 2 //foo 3) cvx stopped", "1 2 true"},
	)
}

// The words of chapter 11: procedures within one another, as deep as may be, and one deeper.
func TestNest(t *testing.T) {
	nested := func(n int) string { return strings.Repeat("{", n) + strings.Repeat("}", n) }
	check(t, small,
		example{nested(64) + " pop 5", "5"},
		example{"5 " + nested(65), "5 !LimitCheck scan"},
		example{"5 " + strings.Repeat("{", 65), "5 !LimitCheck scan"},
		example{"5 " + strings.Repeat("{", 64), "5 !SyntaxError scan"},
		example{"5 " + strings.Repeat("{", 64) + " )", "5 !SyntaxError scan"},
		example{"{ " + repeated(10, nested(63)) + " } pop 5", "5"},
	)
	m := machine(t, small, nested(64))
	finish(m)
	o, _ := m.Operands().Top(0)
	for depth := 1; depth < 64; depth++ {
		items, _ := m.Store().Items(o)
		if len(items) != 1 || items[0].Kind != api.Array || !items[0].Exec {
			t.Fatalf("depth %d: %+v", depth, items)
		}
		o = items[0]
	}
	if o.Len != 0 {
		t.Errorf("the last one has %d items", o.Len)
	}
}

// The words of chapter 11: as many items of a procedure as may be, and one more: told where it is come to.
func TestProcedureLength(t *testing.T) {
	most := strings.Repeat("1 ", api.MaxArray)
	check(t, great,
		example{"{" + most + "} length", "65535"},
		example{"{ " + most + " 1 }", "!LimitCheck scan"},
		example{"{ " + most + " 1", "!LimitCheck scan"},
		example{"{ " + most + " { } }", "!LimitCheck scan"},
		example{"{ " + most, "!SyntaxError scan"},
		example{"{ " + most + " )", "!SyntaxError scan"},
		example{"{ //foo " + most + " 1 }", "!Undefined foo"},
		example{"{ { " + most + " } " + most[2:] + "} length", "65535"},
	)
}

// P11.1: what has no room among the operands: a token is scan's, an item exec's, what a name stands for the name's.
func TestNoRoomForOperands(t *testing.T) {
	three := limit(func(l *api.Limits) { l.Operands = 3 })
	for token, text := range map[string]string{"3": "3", "2.5": "2.5", "(a)": "(a)", "/n": "/n", "{ x }": "{x}", "{ }": "{}", "<41>": "(A)"} {
		check(t, three,
			example{"1 2 " + token, "1 2 " + text},
			example{"1 2 3 " + token, "1 2 3 !StackOverflow scan"},
			example{"{ 1 2 " + token + " } exec", "1 2 " + text},
			example{"{ 1 2 3 " + token + " } exec", "1 2 3 !StackOverflow exec"},
			example{"{ 1 2 3 " + token + " 4 } exec", "1 2 3 !StackOverflow exec"},
			example{"(1 2 3 " + token + " 4) cvx exec", "1 2 3 !StackOverflow scan"},
		)
	}
	check(t, three,
		example{"/x 5 def 1 2 x", "1 2 5"},
		example{"/x 5 def 1 2 3 x", "1 2 3 !StackOverflow x"},
		example{"/x 5 def 1 2 3 //x", "1 2 3 !StackOverflow x"},
		example{"/x 5 def { 1 2 3 x 4 } exec", "1 2 3 !StackOverflow x"},
		example{"/x 5 def { 1 2 3 //x 4 } exec", "1 2 3 !StackOverflow exec"},
		example{"/x 5 def /y /x cvx def 1 2 3 y", "1 2 3 !StackOverflow x"},
		example{"1 2 3 true", "1 2 3 !StackOverflow true"},
		example{"/x (a) def 1 2 3 x", "1 2 3 !StackOverflow x"},
		example{"/x [ 1 ] def 1 2 3 x", "1 2 3 !StackOverflow x"},
		example{"/x 5 cvx def 1 2 3 x", "1 2 3 !StackOverflow x"},
		example{"/x { 5 } def 1 2 3 x", "1 2 3 !StackOverflow exec"},
		example{"/x (5) cvx def 1 2 3 x", "1 2 3 !StackOverflow scan"},
		example{"/x null cvx def 1 2 3 x", "1 2 3"},
		example{"1 2 3 mark", "1 2 3 !StackOverflow mark"},
	)
}

// P11.1: what has no room in the store.
func TestNoRoomForTokens(t *testing.T) {
	for cells, want := range map[int]string{600 + 1400: "", 2001: "1400"} {
		m := machine(t, limit(func(l *api.Limits) { l.Cells = cells }), "")
		if want == "" && m.Store().Free() != 1400 {
			t.Fatalf("%d cells", m.Store().Free())
		}
	}
	least := limit(func(l *api.Limits) { l.Cells = 2000 })
	fill := func(left int) string { return strconv.Itoa(1399-left) + " array pop " }
	check(t, least,
		example{fill(0) + "5", "5"},
		example{fill(0) + "()", "!VMError scan"},
		example{fill(0) + "{ }", "!VMError scan"},
		example{fill(1) + "()", "()"},
		example{fill(1) + "(a)", "!VMError scan"},
		example{fill(1) + "{ }", "{}"},
		example{fill(1) + "{ 1 }", "!VMError scan"},
		example{fill(2) + "(12345678)", "(12345678)"},
		example{fill(2) + "(123456789)", "!VMError scan"},
		example{fill(3) + "{ { } }", "{{}}"},
		example{fill(2) + "{ { } }", "!VMError scan"},
		example{fill(0) + "{ () ) }", "!VMError scan"},
		example{fill(0) + "{ ) () }", "!SyntaxError scan"},
		example{fill(1) + "{ 1 ) }", "!SyntaxError scan"},
	)
}

// A program that a string is has the bytes that were there when it was begun.
func TestTextIsBegunAsItWas(t *testing.T) {
	check(t, small,
		example{"/s (s 0 (5 6 7 8 9 ) putinterval 1 2 3) def s cvx exec s 0 5 getinterval", "1 2 3 (5 6 7)"},
		example{"(1 2 add) cvx exec", "3"},
		example{"(1 2 add) 2 3 getinterval cvx exec", "2 !Undefined a"},
		example{"((1 2) cvx exec 3) cvx exec", "1 2 3"},
		example{"/f (1 2 add) cvx def f { f } exec", "3 3"},
		example{"/f (1 2 add) def f", "(1 2 add)"},
		example{"{ (1 2 add) } exec", "(1 2 add)"},
		example{"(1) cvx noaccess exec", "1"},
	)
}

// A procedure's items are as they are when it is their turn.
func TestItemsAreAsTheyAre(t *testing.T) {
	check(t, small,
		example{"/f { 1 /f load 0 9 put 2 3 4 } def f", "1 2 3 4"},
		example{"/f { 1 /f load 7 9 put 2 3 4 } def f", "1 2 9 4"},
		example{"/f { 1 /f load 0 9 put 2 } def f f", "1 2 9 2"},
		example{"{ 1 2 3 } noaccess exec", "1 2 3"},
		example{"/f { 1 2 3 } executeonly def f", "1 2 3"},
	)
}

// P11.1: what a machine does with bytes that are hardly a program: it ends, whatever they are.
func TestAnyBytes(t *testing.T) {
	l := limit(func(l *api.Limits) { l.Fuel = 300 })
	words := []string{"{", "}", "(", ")", "1", "add", "exec", "cvx", "[", "]", "<<", ">>", "/a", "a", "def", "stopped", "loop", "dup", "exit", "stop", "//a", "for", "copy", "save", "restore", "begin", "end", "forall", "roll", "2", "bind", "\xff", "%", "\n", "<", ">"}
	seed := uint32(1)
	for range 4000 {
		var b strings.Builder
		for range 40 {
			seed = seed*1664525 + 1013904223
			b.WriteString(words[int(seed>>16)%len(words)])
			b.WriteByte(' ')
		}
		m := machine(t, l, b.String())
		s := finish(m)
		if s.Kind != exec.Ended && s.Kind != exec.Failed || m.Steps() > 300 || m.Operands().Len() > l.Operands {
			t.Errorf("%s: %+v", b.String(), s)
		}
	}
}
