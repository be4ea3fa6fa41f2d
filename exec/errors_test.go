package exec_test

import (
	"strconv"
	"testing"

	"mezzotint/api"
	"mezzotint/exec"
)

// P11.2: an error of an operator leaves the operands as they were ahead of it.
func TestErrorLeavesOperands(t *testing.T) {
	check(t, small,
		example{"5 1 0 div", "5 1 0 !UndefinedResult div"},
		example{"5 (a) add", "5 (a) !TypeCheck add"},
		example{"pop", "!StackUnderflow pop"},
		example{"5 exch", "5 !StackUnderflow exch"},
		example{"1 2 (abc) 2 5 getinterval", "1 2 (abc) 2 5 !RangeCheck getinterval"},
		example{"1 2 3 -1 1 roll", "1 2 3 -1 1 !RangeCheck roll"},
		example{"1 2 3 4 1 roll", "1 2 3 4 1 !StackUnderflow roll"},
		example{"1 2 5 index", "1 2 5 !StackUnderflow index"},
		example{"mark 1 2 3 >>", "mark 1 2 3 !RangeCheck >>"},
		example{"1 2 3 array astore", "1 2 [null null null] !StackUnderflow astore"},
		example{"1 null 5 def", "1 null 5 !TypeCheck def"},
		example{"1 2 -1 { 5 } repeat", "1 2 -1 {5} !RangeCheck repeat"},
		example{"1 2 { 5 } for", "1 2 {5} !StackUnderflow for"},
		example{"9 1 true 3 { 5 } for", "9 1 true 3 {5} !TypeCheck for"},
		example{"5 exit", "5 !InvalidExit exit"},
		example{"5 stop", "5 !InvalidExit stop"},
		example{"/a 1 def /a load 5 /b load", "1 5 /b !Undefined load"},
	)
}

// P11.2: an error that is stopped: the operands as they were ahead of what had it, and true.
func TestStoppedErrors(t *testing.T) {
	check(t, small,
		example{"{ 1 0 div } stopped", "1 0 true"},
		example{"{ 1 0 div 5 } stopped 6", "1 0 true 6"},
		example{"{ 5 6 pop pop pop } stopped", "true"},
		example{"{ foo } stopped", "true"},
		example{"{ 1 foo 2 } stopped", "1 true"},
		example{"{ 5 //add 6 } stopped", "5 true"},
		example{"{ { { 1 0 div } exec } exec 5 } stopped", "1 0 true"},
		example{"{ { 1 0 div } stopped 5 } stopped 6", "1 0 true 5 false 6"},
		example{"{ { 1 0 div } stopped 0 div } stopped", "1 0 true 0 true"},
		example{"{ 3 { 1 0 div } repeat 5 } stopped", "1 0 true"},
		example{"{ 1 1 3 { 0 div 5 } for } stopped", "1 0 true"},
		example{"{ [ 7 8 ] { 0 div } forall } stopped", "7 0 true"},
		example{"{ { 1 0 div } loop } stopped 5", "1 0 true 5"},
		example{"{ (1 0 div 5) cvx exec 6 } stopped 7", "1 0 true 7"},
		example{"(1 0 div 5) cvx stopped 7", "1 0 true 7"},
		example{"1 0 /div cvx stopped 5", "1 0 true 5"},
		example{"1 0 /div load stopped 5", "1 0 true 5"},
		example{"3 { { 1 0 div } stopped clear 5 } repeat", "5"},
		example{"/add cvx stopped", "true"},
		example{"1 /add cvx stopped", "1 true"},
		example{"5 { 1 dict begin foo } stopped countdictstack", "5 true 3"},
		example{"{ save foo } stopped exch restore", "true"},
		example{"{ /a 1 def 1 0 div } stopped a", "1 0 true 1"},
	)
}

// P11.2: of an operator that does another one, which has the error, they are as they were ahead of that; of one that
// does something else, as ahead of the operator.
func TestErrorWithinAnOperator(t *testing.T) {
	check(t, small,
		example{"1 0 /div cvx exec", "1 0 !UndefinedResult div"},
		example{"1 0 /div load exec", "1 0 !UndefinedResult div"},
		example{"/add cvx exec", "!StackUnderflow add"},
		example{"(a) /add cvx exec", "(a) !StackUnderflow add"},
		example{"(a) 1 /add cvx exec", "(a) 1 !TypeCheck add"},
		example{"1 0 /div cvx /exec cvx exec", "1 0 !UndefinedResult div"},
		example{"1 0 /div cvx /exec cvx /exec cvx exec", "1 0 !UndefinedResult div"},
		example{"/exec cvx exec", "!StackUnderflow exec"},
		example{"/exec cvx /exec cvx exec", "!StackUnderflow exec"},
		example{"/x /div cvx def 1 0 /x cvx exec", "1 0 !UndefinedResult div"},
		example{"/stopped cvx stopped", "true"},
		example{"1 0 /div cvx /stopped cvx stopped", "1 0 true false"},
		example{"1 /foo cvx exec", "1 foo !Undefined foo"},
		example{"1 /foo cvx stopped", "1 foo true"},
		example{"/a /b cvx def 1 /a cvx exec", "1 a !Undefined b"},
		example{"1 /foo cvx /exec cvx exec", "1 foo !Undefined foo"},
		example{"true { 1 0 div } if", "1 0 !UndefinedResult div"},
		example{"/if cvx exec", "!StackUnderflow if"},
		example{"5 { 6 } /if cvx exec", "5 {6} !TypeCheck if"},
	)
}

// P11.1: who is told to have failed.
func TestWhoFailed(t *testing.T) {
	check(t, small,
		example{"/plus /add load def 1 plus", "1 !StackUnderflow add"},
		example{"/plus { add } def 1 plus", "1 !StackUnderflow add"},
		example{"/plus { add } bind def 1 plus", "1 !StackUnderflow add"},
		example{"/add { pop } def add", "!StackUnderflow pop"},
		example{"/a /b cvx def a", "!Undefined b"},
		example{"/a /b cvx def /b /c cvx def { a } exec", "!Undefined c"},
		example{"[ /a cvx ] 0 get exec", "a !Undefined a"},
		example{"/a load", "/a !Undefined load"},
		example{"1 dict /a get", "1<<>> /a !Undefined get"},
		example{"(1 a) cvx exec", "1 !Undefined a"},
		example{"(1 a) cvx /b exch def b", "1 !Undefined a"},
		example{"(1 (a) cvx exec", "!SyntaxError scan"},
		example{"((1 2) cvx exec }) cvx exec", "1 2 !SyntaxError scan"},
	)
}

// ring lets n names stand for one another, the last one for 5.
func ring(n int) string {
	program := "/a0 5 def"
	for i := range n - 1 {
		program += " /a" + strconv.Itoa(i+1) + " /a" + strconv.Itoa(i) + " cvx def"
	}
	return program + " a" + strconv.Itoa(n-1)
}

// The words of chapter 11: names that stand for names, at most Execs of them; a ring of them ends so, too.
func TestNamesThatStandForNames(t *testing.T) {
	check(t, small,
		example{ring(1), "5"},
		example{ring(2), "5"},
		example{ring(20), "5"},
		example{ring(21), "!ExecStackOverflow exec"},
		example{ring(20) + " { a19 } exec /a19 cvx exec", "5 5 5"},
		example{"/a /a cvx def a", "!ExecStackOverflow exec"},
		example{"/a /b cvx def /b /a cvx def 5 { b } stopped", "5 true"},
		example{"/a /b cvx def /b /c cvx def /c { 7 } def a", "7"},
		example{"/a /b def a", "/b"},
		example{"/a /add cvx def 1 2 a", "3"},
		example{"/a /a cvx def //a", "a"},
		example{"/a /a cvx def /a load", "a"},
		example{"/a /a cvx def /a cvx exec", "a !ExecStackOverflow exec"},
	)
	for execs, want := range map[int]string{2: "!ExecStackOverflow exec", 3: "5"} {
		check(t, limit(func(l *api.Limits) { l.Execs = execs }), example{ring(3), want})
	}
}

// The words of chapter 11: as many things to do as may be, and one more: of each sort.
func TestNoRoomForThings(t *testing.T) {
	three := limit(func(l *api.Limits) { l.Execs = 3 })
	check(t, three,
		example{"{ { 1 pop countexecstack 5 } exec 6 } exec", "3 5 6"},
		example{"{ { { 1 } exec 5 } exec 6 } exec", "{1} !ExecStackOverflow exec"},
		example{"{ { { 1 } exec } exec 6 } exec", "1 6"},
		example{"{ { 1 pop } loop } exec", "!Timeout"},
		example{"{ { 1 pop } loop 5 } exec", "!ExecStackOverflow exec"},
	)
	within := func(program string) string { return "{ { " + program + " 7 } exec 8 } exec" }
	check(t, three,
		example{within("{ 1 } exec"), "{1} !ExecStackOverflow exec"},
		example{within("(1) cvx exec"), "!(1) !ExecStackOverflow exec"},
		example{within("true { 1 } if"), "true {1} !ExecStackOverflow exec"},
		example{within("false { 1 } if"), "7 8"},
		example{within("true { 1 } { 2 } ifelse"), "true {1} {2} !ExecStackOverflow exec"},
		example{within("false { 1 } { 2 } ifelse"), "false {1} {2} !ExecStackOverflow exec"},
		example{within("1 1 3 { 1 } for"), "1 1 3 {1} !ExecStackOverflow exec"},
		example{within("3 { 1 } repeat"), "3 {1} !ExecStackOverflow exec"},
		example{within("0 { } repeat"), "0 {} !ExecStackOverflow exec"},
		example{within("{ 1 } loop"), "{1} !ExecStackOverflow exec"},
		example{within("[ ] { 1 } forall"), "[] {1} !ExecStackOverflow exec"},
		example{within("{ 1 } stopped"), "{1} !ExecStackOverflow exec"},
		example{within("5 stopped"), "5 !ExecStackOverflow exec"},
		example{within("5 exec"), "5 7 8"},
		example{within("1 2 /add cvx exec"), "3 7 8"},
		example{"/f { 1 } def " + within("f"), "!ExecStackOverflow exec"},
		example{"/f (1) cvx def " + within("f"), "!ExecStackOverflow exec"},
		example{"/f { 1 } def " + within("/f cvx exec"), "f !ExecStackOverflow exec"},
		example{"/f { f 1 } def f", "!ExecStackOverflow exec"},
		example{"/f (f) cvx def f", "!ExecStackOverflow exec"},
	)
}

// P11.1: a turn that can't begin its procedure has done nothing.
func TestNoRoomForTurn(t *testing.T) {
	two := limit(func(l *api.Limits) { l.Execs = 2 })
	check(t, two,
		example{"9 1 1 3 { 7 } for", "9 !ExecStackOverflow exec"},
		example{"9 3 { 7 } repeat", "9 !ExecStackOverflow exec"},
		example{"9 { 7 } loop", "9 !ExecStackOverflow exec"},
		example{"9 [ 4 5 ] { 7 } forall", "9 !ExecStackOverflow exec"},
		example{"9 << 4 5 >> { 7 } forall", "9 !ExecStackOverflow exec"},
		example{"9 0 { 7 } repeat [ ] { 7 } forall 3 1 1 { 7 } for", "9"},
		example{"9 { 7 } stopped", "9 {7} true"},
		example{"9 (7) cvx stopped", "9 !(7) true"},
		example{"9 7 stopped", "9 7 false"},
	)
}

// P11.1: a turn that has no room for what it pushes is its loop's.
func TestNoRoomForTurnsOperands(t *testing.T) {
	check(t, limit(func(l *api.Limits) { l.Operands = 6 }),
		example{"8 [ 4 5 6 7 ] dup length pop { 1 } forall", "8 4 1 5 1 6 !StackOverflow exec"},
		example{"8 9 [ 4 5 6 ] { 1 } forall", "8 9 4 1 5 1 !StackOverflow forall"},
		example{"8 9 (abc) { 1 } forall", "8 9 97 1 98 1 !StackOverflow forall"},
		example{"3 dict dup 1 2 put dup 3 4 put dup 5 6 put { 9 } forall", "1 2 9 3 4 9 !StackOverflow forall"},
		example{"8 3 dict dup 1 2 put dup 3 4 put { 9 9 } forall", "8 1 2 9 9 !StackOverflow forall"},
		example{"1 1 7 { } for", "1 2 3 4 5 6 !StackOverflow for"},
		example{"1 1 6 { } for", "1 2 3 4 5 6"},
		example{"{ 1 } loop", "1 1 1 1 1 1 !StackOverflow exec"},
		example{"7 { 1 } repeat", "1 1 1 1 1 1 !StackOverflow exec"},
	)
}

// P11.2: a stopped that has no room for its true, or for its false.
func TestNoRoomForTruth(t *testing.T) {
	three := limit(func(l *api.Limits) { l.Operands = 3 })
	check(t, three,
		example{"1 2 { 3 4 } stopped", "1 2 3 !StackOverflow stopped"},
		example{"1 2 { { 3 4 } stopped } stopped", "1 2 3 !StackOverflow stopped"},
		example{"1 2 { 3 } stopped", "1 2 3 !StackOverflow stopped"},
		example{"1 2 { { 3 } stopped } stopped", "1 2 3 !StackOverflow stopped"},
		example{"1 2 { 3 stop } stopped", "1 2 3 !StackOverflow stopped"},
		example{"1 2 { { 3 stop } stopped } stopped", "1 2 3 !StackOverflow stopped"},
		example{"1 2 { 3 foo } stopped", "1 2 3 !StackOverflow stopped"},
		example{"1 2 3 { } stopped", "1 2 3 !StackOverflow scan"},
		example{"1 { 2 3 } stopped", "1 2 3 !StackOverflow stopped"},
		example{"{ 2 3 } stopped", "2 3 false"},
		example{"{ 2 3 foo } stopped", "2 3 true"},
		example{"{ 2 3 4 foo } stopped", "2 3 4 !StackOverflow stopped"},
	)
}

// P11.1, P11.4: others are asked for, till Answer says how it went.
func TestAnswer(t *testing.T) {
	m := machine(t, small, "1 paint 2 { show paint 3 } stopped 4", "paint", "show")
	if s := m.Step(); told(s) != "running" {
		t.Errorf("at first: %s", told(s))
	}
	for range 3 {
		if got := outcome(m, m.Step()); got != "1 ?paint" || m.Steps() != 2 {
			t.Errorf("asked: %s after %d steps", got, m.Steps())
		}
	}
	m.Answer(api.OK)
	m.Answer(api.RangeCheck)
	for range 4 {
		m.Step()
	}
	if got := outcome(m, m.Step()); got != "1 2 ?show" || m.Steps() != 6 {
		t.Errorf("asked: %s after %d steps", got, m.Steps())
	}
	push(t, m, whole(7))
	m.Answer(api.OK)
	if got := outcome(m, m.Step()); got != "1 2 7 ?paint" || m.Steps() != 7 {
		t.Errorf("asked: %s after %d steps", got, m.Steps())
	}
	m.Operands().Pop()
	push(t, m, whole(8), whole(9))
	m.Answer(api.NoCurrentPoint)
	if got := outcome(m, finish(m)); got != "1 2 8 9 true 4" || m.Steps() != 9 {
		t.Errorf("in the end: %s after %d steps", got, m.Steps())
	}
}

// P11.4: an error that nobody stops; whatever number it has.
func TestAnswerFails(t *testing.T) {
	for _, program := range []string{"5 paint 6", "5 { paint 6 } exec", "5 { paint } loop", "5 /paint cvx exec 6", "5 /paint load exec", "/f /paint load def 5 f", "5 (paint) cvx exec", "5 //paint exec", "5 { paint } bind exec"} {
		for _, e := range []api.Errno{api.DictFull, api.VMError, api.Timeout, api.InvalidFont, api.ErrLoop, 99, -1} {
			m := machine(t, small, program, "paint")
			s := finish(m)
			if got := outcome(m, s); got != "5 ?paint" {
				t.Fatalf("%s: %s", program, got)
			}
			push(t, m, whole(7))
			steps := m.Steps()
			m.Answer(e)
			for range 2 {
				if s := m.Step(); s != (exec.Status{Kind: exec.Failed, Error: e, Name: "paint"}) || operands(m) != "5 7" || m.Steps() != steps {
					t.Errorf("%s, error %d: %+v, %s", program, e, s, operands(m))
				}
			}
		}
	}
}

// P11.4, P11.2: an error that is stopped, by the operator's own stopped too; Timeout is not.
func TestAnswerIsStopped(t *testing.T) {
	for _, program := range []string{"5 { paint 6 } stopped 8", "5 { { paint 6 } loop } stopped 8", "5 /paint cvx stopped 8", "5 /paint load stopped 8", "{ 5 (paint 6) cvx exec } stopped 8"} {
		for e, want := range map[api.Errno]string{api.DictFull: "5 7 true 8", 99: "5 7 true 8", api.Timeout: "5 7 !Timeout paint"} {
			m := machine(t, small, program, "paint")
			finish(m)
			push(t, m, whole(7))
			m.Answer(e)
			if got := outcome(m, finish(m)); got != want {
				t.Errorf("%s, error %d: %s", program, e, got)
			}
		}
	}
	m := machine(t, small, "/paint cvx stopped", "paint")
	finish(m)
	m.Answer(api.OK)
	if got := outcome(m, finish(m)); got != "false" {
		t.Errorf("without an error: %s", got)
	}
}

// P11.1: an operator that is asked for in the last of Fuel's steps may still be answered; then it is over.
func TestAnswerInLastStep(t *testing.T) {
	for e, want := range map[api.Errno]string{api.OK: "5 !Timeout", api.RangeCheck: "5 true !Timeout"} {
		m := machine(t, limit(func(l *api.Limits) { l.Fuel = 4 }), "{ 5 paint } stopped", "paint")
		s := finish(m)
		if got := outcome(m, s); got != "5 ?paint" || m.Steps() != 4 {
			t.Errorf("%s after %d steps", got, m.Steps())
		}
		if s := m.Step(); told(s) != "?paint" {
			t.Errorf("again: %s", told(s))
		}
		m.Answer(e)
		if got := outcome(m, m.Step()); got != want || m.Steps() != 4 {
			t.Errorf("in the end: %s after %d steps", got, m.Steps())
		}
	}
	m := machine(t, limit(func(l *api.Limits) { l.Fuel = 2 }), "5 paint", "paint")
	finish(m)
	m.Answer(api.RangeCheck)
	if got := outcome(m, m.Step()); got != "5 !RangeCheck paint" {
		t.Errorf("failed: %s", got)
	}
}

// P11.4: Answer when nothing is asked does nothing.
func TestAnswerUnasked(t *testing.T) {
	m := machine(t, small, "1 paint 2", "paint")
	answer := func() {
		for _, e := range []api.Errno{api.OK, api.RangeCheck, api.Timeout} {
			m.Answer(e)
		}
	}
	answer()
	if s := m.Step(); told(s) != "running" || operands(m) != "1" {
		t.Errorf("%s", outcome(m, s))
	}
	answer()
	if s := m.Step(); told(s) != "?paint" {
		t.Errorf("%s", outcome(m, s))
	}
	m.Answer(api.OK)
	answer()
	if got := outcome(m, finish(m)); got != "1 2" {
		t.Errorf("%s", got)
	}
}

// P11.1: others may be what a program makes of them; what nobody does is Undefined.
func TestOthersAreOperators(t *testing.T) {
	m := machine(t, small, "/paint load type /paint load xcheck { paint } bind /paint 5 def paint", "paint")
	if got := outcome(m, finish(m)); got != "operatortype true {<paint>} 5" {
		t.Errorf("%s", got)
	}
	m = machine(t, small, "exec", "paint")
	push(t, m, run(api.Obj{Kind: api.Op, Name: "nobody"}))
	if s := finish(m); told(s) != "!Undefined nobody" {
		t.Errorf("%s", told(s))
	}
	m = machine(t, small, "true", "true")
	if got := outcome(m, finish(m)); got != "true" {
		t.Errorf("%s", got)
	}
}
