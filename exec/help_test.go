package exec_test

import (
	"slices"
	"strconv"
	"strings"
	"testing"

	"mezzotint/api"
	"mezzotint/conv"
	"mezzotint/exec"
)

// small are limits that leave room for most programs of the tests.
var small = api.Limits{Fuel: 10000, Operands: 30, Dicts: 6, Execs: 20, Cells: 4000, Segments: 5, Pages: 1, States: 2}

// great are the greatest limits.
var great = api.Limits{Fuel: api.MaxFuel, Operands: api.MaxStack, Dicts: api.MaxStack, Execs: api.MaxStack, Cells: api.MaxCells, Segments: api.MaxSegments, Pages: api.MaxPages, States: api.MaxStack}

// limit answers small limits with one of them changed.
func limit(change func(l *api.Limits)) api.Limits {
	l := small
	change(&l)
	return l
}

var errorNames = []string{
	"OK", "DictFull", "DictStackOverflow", "DictStackUnderflow", "ExecStackOverflow", "InvalidAccess", "InvalidExit", "InvalidFont", "InvalidRestore", "LimitCheck", "NoCurrentPoint", "RangeCheck", "StackOverflow",
	"StackUnderflow", "SyntaxError", "Timeout", "TypeCheck", "Undefined", "UndefinedResult", "UnmatchedMark", "VMError", "ErrArg", "ErrForm", "ErrText", "ErrShort", "ErrLarge", "ErrNone", "ErrLoop",
}

func machine(t *testing.T, l api.Limits, program string, others ...string) *exec.Machine {
	t.Helper()
	m, e := exec.New(l, []byte(program), others...)
	if e != api.OK || m == nil {
		t.Fatalf("New of %.80q: error %d", program, e)
	}
	return m
}

// finish steps till the machine is not Running any more.
func finish(m *exec.Machine) exec.Status {
	s := m.Step()
	for s.Kind == exec.Running {
		s = m.Step()
	}
	return s
}

// told answers a status as a text: of one that has ended nothing.
func told(s exec.Status) string {
	switch s {
	case exec.Status{Kind: exec.Running}:
		return "running"
	case exec.Status{Kind: exec.Ended}:
		return ""
	}
	switch {
	case s.Kind == exec.Asks && s.Error == api.OK:
		return "?" + s.Name
	case s.Kind == exec.Failed && s.Name == "":
		return "!" + errorNames[s.Error]
	case s.Kind == exec.Failed:
		return "!" + errorNames[s.Error] + " " + s.Name
	}
	return "a wrong status"
}

// outcome answers the operands and the status, with a blank between.
func outcome(m *exec.Machine, s exec.Status) string {
	return strings.TrimSpace(operands(m) + " " + told(s))
}

func operands(m *exec.Machine) string {
	return texts(m, m.Operands().All(), 0)
}

func texts(m *exec.Machine, list []api.Obj, depth int) string {
	var words []string
	for _, o := range list {
		words = append(words, text(m, o, depth))
	}
	return strings.Join(words, " ")
}

// text answers an object as a program would write it, an Op as its name in brackets; executable ones of Kinds
// that are mostly not have a ! ahead.
func text(m *exec.Machine, o api.Obj, depth int) string {
	if depth > 3 {
		return ".."
	}
	run := ""
	if o.Exec {
		run = "!"
	}
	switch o.Kind {
	case api.Null:
		return run + "null"
	case api.Mark:
		return run + "mark"
	case api.Save:
		return run + "save"
	case api.Name:
		if o.Exec {
			return o.Name
		}
		return "/" + o.Name
	case api.Op:
		if !o.Exec {
			return "/<" + o.Name + ">"
		}
		return "<" + o.Name + ">"
	case api.String:
		return run + "(" + string(conv.Text(m.Store(), o)) + ")"
	case api.Dict:
		return run + dictText(m, o, depth)
	case api.Array:
		items, _ := m.Store().Items(o)
		if o.Exec {
			return "{" + texts(m, items, depth+1) + "}"
		}
		return "[" + texts(m, items, depth+1) + "]"
	case api.Real:
		return run + realText(m, o)
	}
	return run + string(conv.Text(m.Store(), o))
}

// realText answers a Real so that it is no Int's text.
func realText(m *exec.Machine, o api.Obj) string {
	text := string(conv.Text(m.Store(), o))
	if !strings.Contains(text, ".") {
		return text + ".0"
	}
	return text
}

func dictText(m *exec.Machine, d api.Obj, depth int) string {
	if d == standard(m, "systemdict") {
		return "<<system>>"
	}
	if d == standard(m, "userdict") {
		return "<<user>>"
	}
	n, most, _ := m.Store().Size(d)
	var list []api.Obj
	for i := range n {
		k, x, _ := m.Store().Pair(d, i)
		list = append(list, k, x)
	}
	return strconv.Itoa(most) + "<<" + texts(m, list, depth+1) + ">>"
}

func standard(m *exec.Machine, name string) api.Obj {
	o, _ := m.Lookup(name)
	return o
}

// example is a program, and what it comes to: its operands, and, unless it ends, what it fails by.
type example struct {
	program, want string
}

func check(t *testing.T, l api.Limits, list ...example) {
	t.Helper()
	for _, x := range list {
		m := machine(t, l, x.program)
		if got := outcome(m, finish(m)); got != x.want {
			t.Errorf("%.200s\n\tcomes to %.200s\n\tnot      %.200s", x.program, got, x.want)
		}
	}
}

func whole(n int) api.Obj { return api.Obj{Kind: api.Int, N: n} }

// part answers the Real of so many One-th parts.
func part(n int) api.Obj { return api.Obj{Kind: api.Real, N: n} }

func name(text string) api.Obj { return api.Obj{Kind: api.Name, Name: text} }

func run(o api.Obj) api.Obj {
	o.Exec = true
	return o
}

func truth(holds bool) api.Obj {
	if holds {
		return api.Obj{Kind: api.Bool, N: 1}
	}
	return api.Obj{Kind: api.Bool}
}

// push pushes operands, as a driver of the machine does.
func push(t *testing.T, m *exec.Machine, list ...api.Obj) {
	t.Helper()
	if e := m.Operands().Push(list...); e != api.OK {
		t.Fatalf("push of %d: error %d", len(list), e)
	}
}

func taken(t *testing.T, o api.Obj, e api.Errno) api.Obj {
	t.Helper()
	if e != api.OK {
		t.Fatalf("error %d", e)
	}
	return o
}

// repeated answers a program of n times the same.
func repeated(n int, program string) string {
	return strings.Join(slices.Repeat([]string{program}, n), " ")
}
