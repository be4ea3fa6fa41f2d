package exec_test

import (
	"math"
	"slices"
	"strconv"
	"strings"
	"testing"

	"mezzotint/api"
	"mezzotint/arith"
	"mezzotint/coll"
	"mezzotint/conv"
	"mezzotint/exec"
)

// P11.1: each limit at its least and its greatest, and beyond both.
func TestSound(t *testing.T) {
	if !exec.Sound(small) || !exec.Sound(great) {
		t.Error("limits that are sound are not")
	}
	least := api.Limits{Fuel: 1, Operands: 2, Dicts: 2, Execs: 2, Cells: 2000, Segments: 1, Pages: 1, States: 2}
	if !exec.Sound(least) {
		t.Error("the least limits are not sound")
	}
	for i := range 8 {
		places := func(l *api.Limits) []*int {
			return []*int{&l.Fuel, &l.Operands, &l.Dicts, &l.Execs, &l.Cells, &l.Segments, &l.Pages, &l.States}
		}
		from, to := *places(&least)[i], *places(&great)[i]
		for n, want := range map[int]bool{from: true, to: true, from + 1: true, to - 1: true, from - 1: false, to + 1: false, 0: false, -1: false, math.MinInt: false, math.MaxInt: false} {
			for _, l := range []api.Limits{small, least, great} {
				*places(&l)[i] = n
				if exec.Sound(l) != want {
					t.Errorf("limit %d of %d: sound is %t", n, i, !want)
				}
				if m, e := exec.New(l, nil); (e == api.OK) != want || (m != nil) != want || !want && e != api.ErrArg {
					t.Errorf("limit %d of %d: New has error %d", n, i, e)
				}
			}
		}
	}
	if exec.Sound(api.Limits{}) {
		t.Error("no limits are sound")
	}
}

// P11.1: a program as long as may be, and one byte more.
func TestProgramLength(t *testing.T) {
	longest := "7 " + strings.Repeat(" ", api.MaxText-3) + "8"
	check(t, small, example{longest, "7 8"})
	if m, e := exec.New(small, []byte(longest+" ")); m != nil || e != api.ErrArg {
		t.Errorf("a program too long: error %d", e)
	}
	m, e := exec.New(small, nil)
	if e != api.OK || m.Step() != (exec.Status{Kind: exec.Ended}) {
		t.Errorf("no program: error %d", e)
	}
}

// P11.1: names of others that may not be, wherever they stand.
func TestOthers(t *testing.T) {
	long := strings.Repeat("n", api.MaxName)
	for _, good := range [][]string{nil, {}, {"a"}, {long}, {"a", "b", "c"}, {"A", "a"}, {" ", "\x00", "{", "(", "Add", "addd", "=", "showpage"}} {
		if m, e := exec.New(small, nil, good...); m == nil || e != api.OK {
			t.Errorf("others %q: error %d", good, e)
		}
	}
	wrong := append(exec.Names(), "", long+"n", "a", "b")
	for _, name := range wrong {
		for _, others := range [][]string{{name, "a", "b"}, {"a", name, "b"}, {"a", "b", name}} {
			if m, e := exec.New(small, nil, others...); m != nil || e != api.ErrArg {
				t.Errorf("others %q: error %d", others, e)
			}
		}
	}
	if m, e := exec.New(small, nil, "a", "a"); m != nil || e != api.ErrArg {
		t.Errorf("one twice: error %d", e)
	}
}

// P11.1: as many cells as the two dictionaries need, and too few; whatever else is wrong goes ahead.
func TestCells(t *testing.T) {
	least := limit(func(l *api.Limits) { l.Cells = 2000 })
	var others []string
	for i := range 701 {
		others = append(others, "other"+strconv.Itoa(i))
	}
	m, e := exec.New(least, nil, others[:700]...)
	if e != api.OK || m.Store().Free() != 0 {
		t.Fatalf("just enough cells: error %d", e)
	}
	if m, e := exec.New(least, nil, others...); m != nil || e != api.VMError {
		t.Errorf("too few cells: error %d", e)
	}
	if m, e := exec.New(least, nil, append(others, "add")...); m != nil || e != api.ErrArg {
		t.Errorf("too few cells and a wrong name: error %d", e)
	}
	if m, e := exec.New(least, make([]byte, api.MaxText+1), others...); m != nil || e != api.ErrArg {
		t.Errorf("too few cells and a program too long: error %d", e)
	}
	least.Cells++
	if m, e := exec.New(least, nil, others...); m != nil || e != api.VMError {
		t.Errorf("a cell too few: error %d", e)
	}
	least.Cells++
	if _, e := exec.New(least, nil, others...); e != api.OK {
		t.Errorf("two cells more: error %d", e)
	}
}

// wantNames are the operators, as the chapters list them.
const wantNames = `neg abs ceiling floor round truncate sqrt sin cos not add sub mul div idiv mod and or xor bitshift gt ge lt le
string array dict length maxlength get put getinterval putinterval copy aload known undef eq ne search anchorsearch
type cvx cvlit xcheck cvi cvr cvn cvs cvrs readonly executeonly noaccess rcheck wcheck
pop exch dup index roll clear count mark [ << cleartomark counttomark ] >> astore
exec if ifelse for repeat loop forall exit stopped stop quit countexecstack
begin end def load store where currentdict countdictstack cleardictstack bind save restore`

// P11.4: the operators' names, each once; all that the elder layers know is among them.
func TestNames(t *testing.T) {
	want := strings.Fields(wantNames)
	if got := exec.Names(); !slices.Equal(got, want) {
		t.Errorf("names %q\nnot   %q", got, want)
	}
	n := 0
	for _, name := range want {
		for _, known := range []func(string) (int, bool){arith.Known, coll.Known, conv.Known} {
			if _, ok := known(name); ok {
				n++
				break
			}
		}
	}
	if n != 24+17+14 || len(want) != 94 {
		t.Errorf("%d elder ones of %d", n, len(want))
	}
	exec.Names()[0] = "spoilt"
	if exec.Names()[0] != "neg" {
		t.Error("Names are handed out themselves")
	}
}

// The words of chapter 11: what systemdict has, and that it is full and locked; userdict; the cells of both.
func TestSystemdict(t *testing.T) {
	for _, others := range [][]string{nil, {"zeta", "alpha"}} {
		m := machine(t, small, "", others...)
		s, system, user := m.Store(), standard(m, "systemdict"), standard(m, "userdict")
		names := append(strings.Fields(wantNames), others...)
		var want []api.Obj
		for _, text := range names {
			want = append(want, name(text), api.Obj{Kind: api.Op, Exec: true, Name: text})
		}
		want = append(want, name("true"), truth(true), name("false"), truth(false), name("null"), api.Obj{}, name("systemdict"), system, name("userdict"), user)
		pairs := len(want) / 2
		for i := range pairs {
			if k, x, ok := s.Pair(system, i); !ok || k != want[2*i] || x != want[2*i+1] {
				t.Errorf("pair %d: %+v %+v", i, k, x)
			}
		}
		if n, most, e := s.Size(system); n != pairs || most != pairs || e != api.OK || s.Access(system) != api.ReadOnly {
			t.Errorf("systemdict: %d of %d, error %d, access %d", n, most, e, s.Access(system))
		}
		if n, most, e := s.Size(user); n != 0 || most != 200 || e != api.OK || s.Access(user) != api.Unlimited {
			t.Errorf("userdict: %d of %d, error %d, access %d", n, most, e, s.Access(user))
		}
		for _, d := range []api.Obj{system, user} {
			if d != (api.Obj{Kind: api.Dict, Ref: d.Ref}) {
				t.Errorf("a dictionary's object is %+v", d)
			}
		}
		if left := small.Cells - (1 + 2*pairs) - (1 + 2*200); s.Free() != left {
			t.Errorf("%d cells are left, not %d", s.Free(), left)
		}
	}
	check(t, small,
		example{"currentdict userdict eq countdictstack", "true 2"},
		example{"userdict /a 5 put a systemdict /a known", "5 false"},
		example{"/add 5 def add systemdict /add get", "5 <add>"},
		example{"true false null systemdict userdict", "true false null <<system>> <<user>>"},
	)
}

// P11.1: Step by Step: a token, an item, a turn, an end is one each; Steps counts them.
func TestSteps(t *testing.T) {
	for program, want := range map[string]int{
		"": 1, " % nothing \n": 1, "1": 2, "1 2 add": 4, "{ 1 2 3 }": 2, "{ 1 } exec": 4, "{ 1 2 } exec 3": 6, "/f { 1 2 } def f": 7,
		"0 { 7 } repeat": 5, "2 { 7 } repeat": 9, "1 1 3 { } pop 5 pop pop pop pop": 11, "1 1 3 { pop } for": 13, "[ 1 2 ] { pop } forall": 12, "{ exit } loop": 5,
		"{ 5 } stopped": 5, "{ stop 5 } stopped": 4, "5 stopped": 4, "(1 2) cvx exec": 7, "() cvx exec": 5, "quit 1 2 3": 1, "{ quit } loop": 4, "true { 1 } if": 5, "false { 1 } if": 4,
		"null cvx exec": 4, "1 0 div": 3, "foo": 1, "(a": 1, "{ 1 0 div } loop": 6, "{ 1 0 div 5 } stopped": 6, "/a { b } def /b { c } def /c 5 def a": 13,
	} {
		m := machine(t, small, program)
		calls := 1
		for m.Step().Kind == exec.Running {
			if m.Steps() != calls {
				t.Errorf("%s: %d steps, not %d", program, m.Steps(), calls)
			}
			calls++
		}
		if m.Steps() != want || calls != want {
			t.Errorf("%s: %d steps in %d calls, not %d", program, m.Steps(), calls, want)
		}
	}
}

// P11.1: an empty procedure is a thing to be done, which is off in a step of its own.
func TestStepsOfEmpty(t *testing.T) {
	for program, want := range map[string]int{"{ } exec": 4, "{ } { } exec exec": 7, "2 { } repeat": 9, "{ } stopped": 5, "true { } if": 5} {
		m := machine(t, small, program)
		if s := finish(m); s.Kind != exec.Ended || m.Steps() != want {
			t.Errorf("%s: %s after %d steps, not %d", program, told(s), m.Steps(), want)
		}
	}
}

// P11.1: behind Ended and Failed it stays so.
func TestStaysSo(t *testing.T) {
	for program, want := range map[string]string{"5": "5", "5 quit 6": "5", "5 { quit 6 } loop": "5", "1 0 div 7": "1 0 !UndefinedResult div", "{ } loop": "!Timeout", "5 (a": "5 !SyntaxError scan"} {
		m := machine(t, small, program)
		s := finish(m)
		steps := m.Steps()
		for range 5 {
			if got := outcome(m, s); got != want || m.Steps() != steps {
				t.Errorf("%s: %s after %d steps, not %s", program, got, m.Steps(), want)
			}
			m.Answer(api.OK)
			m.Answer(api.RangeCheck)
			s = m.Step()
		}
	}
}

// P11.1: with each Fuel up to what a program needs, and more: Timeout in the last of its steps, and no step ahead.
func TestFuel(t *testing.T) {
	for _, program := range []string{"", "1 2 add", "0 1 1 4 { add } for", "{ 5 } stopped", "(1 2) cvx exec", "[ 1 2 ] { pop } forall quit", "3 { { } exec } repeat"} {
		m := machine(t, small, program)
		if s := finish(m); s.Kind != exec.Ended {
			t.Fatalf("%s: %s", program, told(s))
		}
		needed, end := m.Steps(), operands(m)
		for fuel := 1; fuel < needed+3; fuel++ {
			m := machine(t, limit(func(l *api.Limits) { l.Fuel = fuel }), program)
			for n := 1; n < min(fuel, needed); n++ {
				if s := m.Step(); s != (exec.Status{}) || m.Steps() != n {
					t.Errorf("%s, fuel %d: %s in step %d", program, fuel, told(s), n)
				}
			}
			s := m.Step()
			switch {
			case fuel < needed && (told(s) != "!Timeout" || m.Steps() != fuel):
				t.Errorf("%s, fuel %d: %s after %d steps", program, fuel, told(s), m.Steps())
			case fuel >= needed && (outcome(m, s) != end || m.Steps() != needed):
				t.Errorf("%s, fuel %d: %s after %d steps", program, fuel, outcome(m, s), m.Steps())
			}
		}
	}
}

// P11.1: an error in the last of Fuel's steps is told, one that is stopped there is not.
func TestErrorInLastStep(t *testing.T) {
	for fuel, want := range map[int]string{2: "1 0 !Timeout", 3: "1 0 !UndefinedResult div", 4: "1 0 !UndefinedResult div"} {
		check(t, limit(func(l *api.Limits) { l.Fuel = fuel }), example{"1 0 div", want})
	}
	for fuel, want := range map[int]string{4: "1 0 !Timeout", 5: "1 0 true !Timeout", 6: "1 0 true"} {
		check(t, limit(func(l *api.Limits) { l.Fuel = fuel }), example{"{ 1 0 div } stopped", want})
	}
}

// P11.1, P11.2: Timeout is not stopped, and has no name.
func TestTimeoutIsNotStopped(t *testing.T) {
	check(t, small,
		example{"{ { } loop } stopped 5", "!Timeout"},
		example{"{ { { { } loop } stopped } stopped } stopped", "!Timeout"},
		example{"/f { f } def f", "!Timeout"},
		example{"/f { { f } exec } def f", "!Timeout"},
		example{"/f { true { f } if } def f", "!Timeout"},
		example{"/f { 5 false { } { pop f } ifelse } def f", "!Timeout"},
	)
	m := machine(t, great, "{ } loop")
	if s := finish(m); told(s) != "!Timeout" || m.Steps() != api.MaxFuel {
		t.Errorf("%s after %d steps", told(s), m.Steps())
	}
}

// The examples of the chapter, and of the document.
func TestExamples(t *testing.T) {
	check(t, small,
		example{"1 0 div", "1 0 !UndefinedResult div"},
		example{"{ 1 0 div } stopped", "1 0 true"},
		example{"/f { f } def f", "!Timeout"},
		example{"{ } loop", "!Timeout"},
	)
}

// P11.4: names are looked up in the topmost dictionary that has them, and no farther.
func TestLookup(t *testing.T) {
	m := machine(t, small, "/a { b } def /b 5 def 1 dict begin /a /c cvx def")
	finish(m)
	for text, want := range map[string]api.Obj{"a": run(name("c")), "b": whole(5), "add": {Kind: api.Op, Exec: true, Name: "add"}, "true": truth(true), "null": {}} {
		if o, ok := m.Lookup(text); !ok || o != want {
			t.Errorf("%s is %+v %t", text, o, ok)
		}
	}
	for _, text := range []string{"", "c", "A", "add ", strings.Repeat("n", 200)} {
		if o, ok := m.Lookup(text); ok || o != (api.Obj{}) {
			t.Errorf("%q is %+v %t", text, o, ok)
		}
	}
	if m.Steps() != 14 {
		t.Errorf("%d steps", m.Steps())
	}
}

// P11.4: how many saves are alive.
func TestSaved(t *testing.T) {
	m := machine(t, small, "save save dup restore pop save exch restore pop save pop")
	want := []int{1, 2, 2, 1, 1, 2, 2, 0, 0, 1, 1, 1}
	for i, n := range want {
		m.Step()
		if m.Saved() != n {
			t.Errorf("step %d: %d saves are alive, not %d", i+1, m.Saved(), n)
		}
	}
}

// P11.4: Operands and Store are the machine's own: what is done to them counts for the program.
func TestOwn(t *testing.T) {
	m := machine(t, small, "add 3 (abc)")
	push(t, m, whole(1), whole(2))
	m.Step()
	if operands(m) != "3" {
		t.Errorf("operands %s", operands(m))
	}
	m.Step()
	free := m.Store().Free()
	d, e := m.Store().Dict(3)
	push(t, m, taken(t, d, e))
	s := finish(m)
	if got := outcome(m, s); got != "3 3 3<<>> (abc)" || m.Store().Free() != free-7-2 {
		t.Errorf("%s, %d cells", got, m.Store().Free())
	}
	if m.Operands() != m.Operands() || m.Store() != m.Store() {
		t.Error("another one each time")
	}
}

// P11.4: what a nil machine answers, and one that New has not made.
func TestNil(t *testing.T) {
	for _, m := range []*exec.Machine{nil, {}} {
		for range 2 {
			if s := m.Step(); s != (exec.Status{Kind: exec.Failed, Error: api.ErrArg}) {
				t.Errorf("Step: %+v", s)
			}
			m.Answer(api.OK)
			m.Answer(api.RangeCheck)
			if m.Operands() != nil || m.Store() != nil || m.Steps() != 0 || m.Saved() != 0 {
				t.Error("it has something")
			}
			if o, ok := m.Lookup("add"); ok || o != (api.Obj{}) {
				t.Errorf("add is %+v", o)
			}
		}
	}
}
