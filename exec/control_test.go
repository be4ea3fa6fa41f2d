package exec_test

import (
	"strconv"
	"testing"

	"mezzotint/api"
	"mezzotint/arith"
)

// P11.3: exec, of every Kind: what it does, and what stays.
func TestExec(t *testing.T) {
	check(t, small,
		example{"{ 1 2 } exec", "1 2"},
		example{"{ } exec", ""},
		example{"5 exec (a) exec /a exec [ 1 ] exec null exec mark exec true exec 2.5 exec", "5 (a) /a [1] null mark true 2.5"},
		example{"5 cvx exec true cvx exec 2.5 cvx exec mark cvx exec 1 dict cvx exec", "!5 !true !2.5 !mark !1<<>>"},
		example{"null cvx exec", ""},
		example{"(1 2 add) exec (1 2 add) cvx exec", "(1 2 add) 3"},
		example{"[ 1 2 /add cvx ] cvx exec", "3"},
		example{"[ 1 2 /add cvx ] exec", "[1 2 add]"},
		example{"1 2 /add cvx exec", "3"},
		example{"1 2 /add load exec", "3"},
		example{"1 2 /add load cvlit exec", "1 2 /<add>"},
		example{"/f { 1 2 } def /f cvx exec", "1 2"},
		example{"/f { 1 2 } cvlit def /f cvx exec f", "[1 2] [1 2]"},
		example{"/f (7) cvx def /f cvx exec f", "7 7"},
		example{"/f 5 def /f cvx exec", "5"},
		example{"/f null cvx def 1 /f cvx exec 2", "1 2"},
		example{"{ { 1 } } exec", "{1}"},
		example{"{ { 1 } exec } exec", "1"},
		example{"{ [ 1 ] cvx 2 } exec", "{1} 2"},
		example{"[ [ 1 ] cvx 2 ] cvx exec", "{1} 2"},
		example{"[ (1) cvx 2 ] cvx exec", "1 2"},
		example{"[ null cvx 2 ] cvx exec", "2"},
		example{"[ 5 cvx true cvx ] cvx exec", "!5 !true"},
		example{"{ 1 2 3 4 } 1 2 getinterval exec", "2 3"},
		example{"save cvx exec", "!save"},
	)
}

// P11.3: if and ifelse.
func TestIf(t *testing.T) {
	check(t, small,
		example{"true { 1 } if false { 2 } if", "1"},
		example{"true { 1 } { 2 } ifelse false { 3 } { 4 } ifelse", "1 4"},
		example{"1 2 lt { 5 } if 2 1 lt { 6 } if", "5"},
		example{"{ true { 1 } if 2 } exec", "1 2"},
		example{"{ false { 1 } { 2 } ifelse 3 } exec", "2 3"},
		example{"true { { 1 } } if", "{1}"},
		example{"9 true { } if", "9"},
		example{"1 { 2 } if", "1 {2} !TypeCheck if"},
		example{"true [ 2 ] if", "true [2] !TypeCheck if"},
		example{"true { 1 } [ 2 ] ifelse", "true {1} [2] !TypeCheck ifelse"},
		example{"true [ 1 ] { 2 } ifelse", "true [1] {2} !TypeCheck ifelse"},
		example{"0 { 1 } { 2 } ifelse", "0 {1} {2} !TypeCheck ifelse"},
		example{"true (2) cvx if", "true !(2) !TypeCheck if"},
	)
}

// P11.3: for: up and down, by whole steps and others, to a limit that is just met and just not, and by none.
func TestFor(t *testing.T) {
	few := limit(func(l *api.Limits) { l.Operands = 6 })
	check(t, few,
		example{"1 1 4 { } for", "1 2 3 4"},
		example{"1 2 5 { } for", "1 3 5"},
		example{"1 2 6 { } for", "1 3 5"},
		example{"3 -1 0 { } for", "3 2 1 0"},
		example{"3 -2 0 { } for", "3 1"},
		example{"5 1 5 { } for", "5"},
		example{"5 1 4 { } for", ""},
		example{"5 -1 5 { } for", "5"},
		example{"5 -1 6 { } for", ""},
		example{"-5 1 -3 { } for", "-5 -4 -3"},
		example{"1 0 0 { } for", ""},
		example{"1 0 1 { } for", "1 1 1 1 1 1 !StackOverflow for"},
		example{"1 0.0 1 { } for", "1 1.0 1.0 1.0 1.0 1.0 !StackOverflow for"},
		example{"0 .5 1 { } for", "0 0.5 1.0"},
		example{"0.0 .5 1 { } for", "0.0 0.5 1.0"},
		example{"0.0 .5 1.49 { } for", "0.0 0.5 1.0"},
		example{"0.0 1 2 { } for", "0.0 1.0 2.0"},
		example{"1 -.5 0 { } for", "1 0.5 0.0"},
		example{"1 1 2.5 { } for", "1 2"},
		example{"1 1 3.0 { } for", "1 2 3"},
		example{"1 -1 -.5 { } for", "1 0"},
		example{"1.5 1 1.4999 { } for", ""},
		example{"1 1 3 { pop 7 } for", "7 7 7"},
		example{"0 1 1 4 { add } for", "10"},
		example{"9 1 1 2 { exch } for", "1 2 9"},
	)
	check(t, few,
		example{"2147483646 1 2147483647 { } for 5", "2147483646 2147483647 5"},
		example{"-2147483647 -1 -2147483648 { } for 5", "-2147483647 -2147483648 5"},
		example{"2147483647 1 2147483647 { } for 5", "2147483647 5"},
		example{"2147483646 2 2147483647 { } for 5", "2147483646 5"},
		example{"32767.0 1 99999 { } for 5", "32767.0 5"},
		example{"32766.5 1 99999 { } for 5", "32766.5 32767.5 5"},
		example{"40000 .5 50000 { } for 5", "40000 5"},
		example{"-32768.0 -1 -99999 { } for 5", "-32768.0 5"},
		example{"32767.0 0 99999 { exit } for 5", "32767.0 5"},
		example{"40000 .5 50000 { exit } for 5", "40000 5"},
		example{"40000 .5 50000 { countexecstack } for countexecstack", "40000 2 1"},
		example{"40000 .5 3 { } for 5", "5"},
	)
}

// P11.3, R1: for's numbers are those of chapter 8, which no program has others than.
func TestForOfNoNumbers(t *testing.T) {
	for _, wrong := range []api.Obj{whole(api.MaxInt + 1), whole(api.MinInt - 1), part(api.MaxFix + 1), part(api.MinFix - 1)} {
		for i := range 3 {
			m := machine(t, small, "for")
			p, e := m.Store().List()
			args := []api.Obj{whole(1), whole(1), whole(3), run(taken(t, p, e))}
			args[i] = wrong
			push(t, m, args...)
			if s := finish(m); told(s) != "!TypeCheck for" {
				t.Errorf("operand %d is %+v: %s", i, wrong, outcome(m, s))
			}
		}
	}
}

// P11.3: for with a step of 0 goes on for ever.
func TestForWithoutEnd(t *testing.T) {
	for _, program := range []string{"1 0 1 { pop } for", "1 0 2 { pop } for", "1.5 0.0 2 { pop } for"} {
		m := machine(t, small, program)
		if s := finish(m); told(s) != "!Timeout" || m.Operands().Len() > 1 {
			t.Errorf("%s: %s", program, outcome(m, s))
		}
	}
}

// P11.3: for, with all of some numbers, as the turns that chapter 8's add, and less and more, tell one by one.
func TestForNumbers(t *testing.T) {
	l := limit(func(l *api.Limits) { l.Operands = 200 })
	numbers := []api.Obj{whole(0), whole(1), whole(-1), whole(3), whole(-7), part(0), part(32768), part(-32768), part(65536), part(163840), part(-65537)}
	all(3, numbers, func(args []api.Obj) {
		m := machine(t, l, "{ count 100 gt { exit } if } for")
		push(t, m, args...)
		s := finish(m)
		var want []api.Obj
		for n := args[0]; len(want) <= 100; {
			down, _ := arith.Less(args[1], whole(0))
			above, _ := arith.Less(args[2], n)
			below, _ := arith.Less(n, args[2])
			if down && below || !down && above {
				break
			}
			want = append(want, n)
			n = added(t, n, args[1])
		}
		if got := outcome(m, s); got != texts(m, want, 0) {
			t.Errorf("%s for: %s, not %s", texts(m, args, 0), got, texts(m, want, 0))
		}
	})
}

func added(t *testing.T, a, b api.Obj) api.Obj {
	t.Helper()
	list, e := arith.Do("add", a, b)
	if e != api.OK {
		t.Fatalf("add: error %d", e)
	}
	return list[0]
}

// P11.3: repeat and loop.
func TestRepeat(t *testing.T) {
	check(t, small,
		example{"3 { 7 } repeat", "7 7 7"},
		example{"1 { 7 } repeat", "7"},
		example{"0 { 7 } repeat 5", "5"},
		example{"9 -1 { 7 } repeat", "9 -1 {7} !RangeCheck repeat"},
		example{"-2147483648 { 7 } repeat", "-2147483648 {7} !RangeCheck repeat"},
		example{"1.0 { 7 } repeat", "1.0 {7} !TypeCheck repeat"},
		example{"3 [ 7 ] repeat", "3 [7] !TypeCheck repeat"},
		example{"2 { 3 { 7 } repeat } repeat", "7 7 7 7 7 7"},
		example{"2147483647 { exit } repeat 5", "5"},
		example{"3 { } repeat 5", "5"},
		example{"1 3 { 2 mul } repeat", "8"},
		example{"0 { 1 add dup 5 eq { exit } if } loop", "5"},
		example{"{ exit 5 } loop 6", "6"},
		example{"[ 7 ] loop", "[7] !TypeCheck loop"},
		example{"-1 [ 7 ] repeat", "-1 [7] !TypeCheck repeat"},
	)
}

// P11.3: forall: of arrays, strings and dictionaries, of nothing and of parts.
func TestForall(t *testing.T) {
	check(t, small,
		example{"[ 1 2 3 ] { 2 mul } forall", "2 4 6"},
		example{"[ ] { 7 } forall 5", "5"},
		example{"{ 1 a (b) } { } forall", "1 a (b)"},
		example{"[ { 1 } /add cvx ] { } forall", "{1} add"},
		example{"(abc) { } forall", "97 98 99"},
		example{"() { 7 } forall 5", "5"},
		example{"(\\000\\377) { } forall", "0 255"},
		example{"(abc) cvx { } forall", "97 98 99"},
		example{"<< /b 1 /a 2 3 4 >> { } forall", "/b 1 /a 2 3 4"},
		example{"<< /b 1 /a 2 >> { exch pop } forall", "1 2"},
		example{"5 dict { 7 } forall 5", "5"},
		example{"[ 1 2 3 4 ] 1 2 getinterval { } forall", "2 3"},
		example{"[ 1 2 3 4 ] 4 0 getinterval { 7 } forall", ""},
		example{"(abcd) 2 2 getinterval { } forall", "99 100"},
		example{"[ 1 2 ] readonly { } forall (a) readonly { } forall << 3 4 >> readonly { } forall", "1 2 97 3 4"},
		example{"[ 1 2 ] executeonly { } forall", "[1 2] {} !InvalidAccess forall"},
		example{"[ 1 2 ] noaccess { } forall", "[1 2] {} !InvalidAccess forall"},
		example{"(a) executeonly { } forall", "(a) {} !InvalidAccess forall"},
		example{"(a) noaccess { } forall", "(a) {} !InvalidAccess forall"},
		example{"<< 1 2 >> noaccess { } forall", "1<<1 2>> {} !InvalidAccess forall"},
		example{"(a) noaccess [ ] forall", "(a) [] !TypeCheck forall"},
		example{"[ 1 2 ] { } noaccess forall", "1 2"},
		example{"/a { } forall", "/a {} !TypeCheck forall"},
		example{"5 { } forall", "5 {} !TypeCheck forall"},
		example{"5 (a) forall", "5 (a) !TypeCheck forall"},
		example{"[ 1 2 ] { [ 3 4 ] { } forall } forall", "1 3 4 2 3 4"},
	)
}

// P11.3: forall of what changes meanwhile: each turn has what is there then.
func TestForallOfChanges(t *testing.T) {
	check(t, small,
		example{"/a [ 1 2 3 ] def a { a 2 9 put a 0 8 put } forall", "1 2 9"},
		example{"/s (abc) def s { s 2 65 put s 0 66 put } forall", "97 98 65"},
		example{"/d 5 dict def d /a 1 put d /b 2 put d /c 3 put d { pop d /b 9 put d /a 8 put } forall", "/a /b /c"},
		example{"/d 5 dict def d /a 1 put d /b 2 put d { d /b 9 put } forall", "/a 1 /b 9"},
		example{"/d 5 dict def d /a 1 put d /b 2 put d { d /c 3 put } forall", "/a 1 /b 2 /c 3"},
		example{"/d 5 dict def d /a 1 put d { d /a undef } forall d", "/a 1 5<<>>"},
		example{"/d 5 dict def d /a 1 put d /b 2 put d /c 3 put d { d /a undef } forall", "/a 1 /c 3"},
		example{"/d 5 dict def d /a 1 put d /b 2 put d { d /b undef } forall", "/a 1"},
		example{"/d 3 dict def d 0 0 put d { pop 1 add dup d exch 0 put } forall", "1 2 3 3<<0 0 1 0 2 0>> 3 0 !DictFull put"},
		example{"/d 5 dict def d /a 1 put d /b 2 put d { d noaccess pop } forall", "/a 1 /b 2"},
	)
}

// P11.3: exit: out of each loop, and of the innermost one alone.
func TestExit(t *testing.T) {
	check(t, small,
		example{"1 1 9 { dup 3 eq { exit } if } for", "1 2 3"},
		example{"9 { 7 exit 8 } repeat 5", "7 5"},
		example{"{ 7 exit 8 } loop 5", "7 5"},
		example{"[ 1 2 3 ] { dup 2 eq { exit } if } forall 5", "1 2 5"},
		example{"(abc) { exit } forall", "97"},
		example{"<< 1 2 3 4 >> { exit } forall", "1 2"},
		example{"3 { { 7 exit } loop } repeat", "7 7 7"},
		example{"{ 3 { { exit } exec 8 } repeat 9 exit } loop 5", "9 5"},
		example{"{ { { { exit 1 } exec 2 } exec 3 } exec 4 } loop 5", "5"},
		example{"/f { exit 1 } def { f 2 } loop 5", "5"},
		example{"{ true { exit } if } loop 5", "5"},
		example{"{ { exit } loop 7 exit } loop 5", "7 5"},
		example{"exit", "!InvalidExit exit"},
		example{"{ exit } exec", "!InvalidExit exit"},
		example{"{ { exit } stopped exit } loop 5", "true 5"},
		example{"{ (exit) cvx exec } loop", "!InvalidExit exit"},
		example{"{ { (exit 1) cvx exec 2 } stopped exit } loop 5", "true 5"},
		example{"({ exit } loop 5) cvx exec", "5"},
		example{"{ exit } stopped", "true"},
		example{"{ /exit cvx stopped exit } loop 5", "true 5"},
		example{"{ { { 7 exit } loop 8 } stopped exit } loop 5", "7 8 false 5"},
	)
}

// P11.3: stopped and stop.
func TestStopped(t *testing.T) {
	check(t, small,
		example{"{ 5 } stopped", "5 false"},
		example{"{ } stopped", "false"},
		example{"{ 5 stop 6 } stopped", "5 true"},
		example{"5 stopped", "5 false"},
		example{"(a) stopped", "(a) false"},
		example{"null cvx stopped", "false"},
		example{"(5) cvx stopped", "5 false"},
		example{"(5 stop 6) cvx stopped", "5 true"},
		example{"/f { 5 stop 6 } def /f cvx stopped", "5 true"},
		example{"/stop cvx stopped 5", "true 5"},
		example{"/stop load stopped 5", "true 5"},
		example{"/f 5 def /f cvx stopped", "5 false"},
		example{"1 2 /add cvx stopped", "3 false"},
		example{"{ { 5 stop 6 } stopped 7 } stopped", "5 true 7 false"},
		example{"{ { 5 stop 6 } stopped stop 7 } stopped", "5 true true"},
		example{"{ 1 1 9 { stop } for 6 } stopped 7", "1 true 7"},
		example{"{ { { { stop } loop } exec } stopped 6 } stopped 7", "true 6 false 7"},
		example{"{ { 7 stop } stopped { exit } if } loop 5", "7 5"},
		example{"{ (7 stop 8) cvx exec 9 } stopped 5", "7 true 5"},
		example{"3 { { stop } stopped } repeat", "true true true"},
		example{"{ stop } stopped { 1 } { 2 } ifelse", "1"},
		example{"{ } stopped { 1 } { 2 } ifelse", "2"},
		example{"stop", "!InvalidExit stop"},
		example{"{ stop } exec", "!InvalidExit stop"},
		example{"{ stop } loop", "!InvalidExit stop"},
		example{"(stop) cvx exec", "!InvalidExit stop"},
		example{"{ } stopped stop", "false !InvalidExit stop"},
	)
}

// P11.3: quit, wherever it stands.
func TestQuit(t *testing.T) {
	check(t, small,
		example{"5 quit 6", "5"},
		example{"{ 5 quit 6 } stopped 7", "5"},
		example{"{ 5 quit } loop", "5"},
		example{"(5 quit 6) cvx exec 7", "5"},
		example{"5 /quit cvx exec 6", "5"},
		example{"5 /quit cvx stopped 6", "5"},
		example{"quit )", ""},
		example{"5 quit quit", "5"},
	)
}

// P11.3: how many things are being done: a procedure is none any more at its last item.
func TestCountexecstack(t *testing.T) {
	check(t, small,
		example{"countexecstack", "1"},
		example{"{ countexecstack } exec", "1"},
		example{"{ countexecstack 5 } exec", "2 5"},
		example{"{ { countexecstack 5 } exec 6 } exec", "3 5 6"},
		example{"{ { countexecstack } exec 6 } exec", "2 6"},
		example{"(countexecstack) cvx exec", "2"},
		example{"(countexecstack ) cvx exec countexecstack", "2 1"},
		example{"{ countexecstack } stopped", "2 false"},
		example{"/countexecstack cvx stopped", "2 false"},
		example{"1 { countexecstack } repeat", "2"},
		example{"1 { countexecstack 5 } repeat", "3 5"},
		example{"1 1 1 { countexecstack } for", "1 2"},
		example{"[ 7 ] { countexecstack } forall", "7 2"},
		example{"{ countexecstack exit } loop countexecstack", "3 1"},
		example{"{ { { 1 0 div } loop } exec 5 } stopped countexecstack", "1 0 true 1"},
		example{"{ { { stop } loop } exec 5 } stopped countexecstack", "true 1"},
		example{"{ { { exit } exec 5 } exec 6 } loop countexecstack", "1"},
		example{"/f { countexecstack } def f { f } exec { f 5 } exec", "1 1 2 5"},
		example{"true { countexecstack } if", "1"},
	)
}

// P11.3: as many things as may be done at once, and all of them off again.
func TestDeep(t *testing.T) {
	most := limit(func(l *api.Limits) { l.Execs = api.MaxStack; l.Fuel = api.MaxFuel })
	within := func(n int) string {
		return "/n 0 def /f { /n n 1 add def n " + strconv.Itoa(n) + " lt { f } if 1 pop } def f n countexecstack"
	}
	for _, n := range []int{1, 2, 100, 4095} {
		check(t, most, example{within(n), strconv.Itoa(n) + " 1"})
	}
	check(t, most, example{within(4096), "true {f} !ExecStackOverflow exec"})
}
