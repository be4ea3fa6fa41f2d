package exec_test

import (
	"slices"
	"strconv"
	"testing"

	"mezzotint/api"
	"mezzotint/arith"
	"mezzotint/coll"
	"mezzotint/conv"
	"mezzotint/exec"
	"mezzotint/store"
)

// P11.3: the operators of the operands.
func TestOperands(t *testing.T) {
	check(t, small,
		example{"1 2 pop", "1"},
		example{"1 2 3 exch", "1 3 2"},
		example{"1 2 dup", "1 2 2"},
		example{"(a) dup 0 66 put", "(B)"},
		example{"10 20 30 0 index", "10 20 30 30"},
		example{"10 20 30 2 index", "10 20 30 10"},
		example{"10 20 30 3 index", "10 20 30 3 !StackUnderflow index"},
		example{"10 20 30 -1 index", "10 20 30 -1 !RangeCheck index"},
		example{"0 index", "0 !StackUnderflow index"},
		example{"1 2 3 clear", ""},
		example{"clear clear 5", "5"},
		example{"count", "0"},
		example{"7 8 count count", "7 8 2 3"},
		example{"mark [ <<", "mark mark mark"},
	)
}

// P11.3: roll: upwards and downwards, round and round, of none and of all.
func TestRoll(t *testing.T) {
	check(t, small,
		example{"1 2 3 3 1 roll", "3 1 2"},
		example{"1 2 3 3 -1 roll", "2 3 1"},
		example{"1 2 3 4 2 1 roll", "1 2 4 3"},
		example{"1 2 3 4 3 5 roll", "1 3 4 2"},
		example{"1 2 3 4 3 -5 roll", "1 4 2 3"},
		example{"1 2 3 4 4 2147483647 roll", "2 3 4 1"},
		example{"1 2 3 4 4 -2147483648 roll", "1 2 3 4"},
		example{"1 2 3 3 0 roll", "1 2 3"},
		example{"1 2 3 0 5 roll", "1 2 3"},
		example{"0 0 roll", ""},
		example{"0 1 roll 5", "5"},
		example{"1 1 roll", "1 1 !StackUnderflow roll"},
		example{"1 2 3 4 1 roll", "1 2 3 4 1 !StackUnderflow roll"},
		example{"1 2 3 2147483647 1 roll", "1 2 3 2147483647 1 !StackUnderflow roll"},
		example{"1 2 3 -1 1 roll", "1 2 3 -1 1 !RangeCheck roll"},
		example{"1 2 3 3 1.0 roll", "1 2 3 3 1.0 !TypeCheck roll"},
		example{"1 2 3 3.0 1 roll", "1 2 3 3.0 1 !TypeCheck roll"},
		example{"1 roll", "1 !StackUnderflow roll"},
		example{"(a) roll", "(a) !StackUnderflow roll"},
	)
}

// P11.3: copy: of as many operands as the Int on top tells; else chapter 9's.
func TestCopy(t *testing.T) {
	check(t, small,
		example{"1 2 3 2 copy", "1 2 3 2 3"},
		example{"1 2 3 3 copy", "1 2 3 1 2 3"},
		example{"1 2 3 0 copy", "1 2 3"},
		example{"0 copy", ""},
		example{"1 2 3 4 copy", "1 2 3 4 !StackUnderflow copy"},
		example{"1 copy", "1 !StackUnderflow copy"},
		example{"1 2 3 -1 copy", "1 2 3 -1 !RangeCheck copy"},
		example{"-1 copy", "-1 !RangeCheck copy"},
		example{"1 2 3 2147483647 copy", "1 2 3 2147483647 !StackUnderflow copy"},
		example{"copy", "!StackUnderflow copy"},
		example{"(a) copy", "(a) !StackUnderflow copy"},
		example{"1.0 copy", "1.0 !StackUnderflow copy"},
		example{"5 1.0 copy", "5 1.0 !TypeCheck copy"},
		example{"5 true copy", "5 true !TypeCheck copy"},
		example{"(ab) (xyz) copy", "(ab)"},
		example{"(ab) (xyz) dup 3 1 roll copy", "(abz) (ab)"},
		example{"(ab) (x) copy", "(ab) (x) !RangeCheck copy"},
		example{"[ 1 2 ] [ 3 4 5 ] copy", "[1 2]"},
		example{"<< 1 2 >> 3 dict copy", "3<<1 2>>"},
	)
	check(t, limit(func(l *api.Limits) { l.Operands = 6 }),
		example{"1 2 3 3 copy", "1 2 3 1 2 3"},
		example{"1 2 3 4 3 copy", "1 2 3 4 3 !StackOverflow copy"},
		example{"1 2 3 4 2 copy", "1 2 3 4 3 4"},
		example{"1 2 3 4 5 1 copy", "1 2 3 4 5 5"},
		example{"1 2 3 4 5 2 copy", "1 2 3 4 5 2 !StackOverflow copy"},
		example{"1 2 3 4 5 0 copy", "1 2 3 4 5"},
	)
}

// P11.3: marks, and what is above them.
func TestMarks(t *testing.T) {
	check(t, small,
		example{"1 mark 2 3 cleartomark", "1"},
		example{"1 [ cleartomark", "1"},
		example{"mark 1 mark 2 cleartomark", "mark 1"},
		example{"1 2 cleartomark", "1 2 !UnmatchedMark cleartomark"},
		example{"cleartomark", "!UnmatchedMark cleartomark"},
		example{"mark counttomark", "mark 0"},
		example{"mark 1 2 3 counttomark", "mark 1 2 3 3"},
		example{"mark 1 mark 2 counttomark", "mark 1 mark 2 1"},
		example{"1 2 counttomark", "1 2 !UnmatchedMark counttomark"},
		example{"counttomark", "!UnmatchedMark counttomark"},
		example{"[ ]", "[]"},
		example{"1 [ 2 3 ]", "1 [2 3]"},
		example{"[ 1 [ 2 [ ] ] 3 ]", "[1 [2 []] 3]"},
		example{"mark 1 2 ]", "[1 2]"},
		example{"<< 1 2 ]", "[1 2]"},
		example{"[ { 1 } /a (b) true null ]", "[{1} /a (b) true null]"},
		example{"1 2 ]", "1 2 !UnmatchedMark ]"},
		example{"]", "!UnmatchedMark ]"},
		example{"[ 1 ] ]", "[1] !UnmatchedMark ]"},
		example{"1 >>", "1 !UnmatchedMark >>"},
		example{">>", "!UnmatchedMark >>"},
		example{"[ 1 2 ] xcheck", "false"},
		example{"[ 1 2 ] wcheck", "true"},
	)
	check(t, limit(func(l *api.Limits) { l.Operands = 3 }),
		example{"mark 1 counttomark", "mark 1 1"},
		example{"mark 1 2 counttomark", "mark 1 2 !StackOverflow counttomark"},
		example{"[ 1 2 ]", "[1 2]"},
		example{"1 2 3 count", "1 2 3 !StackOverflow count"},
		example{"1 2 3 dup", "1 2 3 !StackOverflow dup"},
		example{"1 2 3 exch", "1 3 2"},
		example{"1 2 1 index", "1 2 1"},
		example{"1 2 3 mark", "1 2 3 !StackOverflow mark"},
		example{"1 2 3 [", "1 2 3 !StackOverflow ["},
		example{"1 2 3 <<", "1 2 3 !StackOverflow <<"},
		example{"1 2 3 countexecstack", "1 2 3 !StackOverflow countexecstack"},
		example{"1 2 3 countdictstack", "1 2 3 !StackOverflow countdictstack"},
		example{"1 2 3 currentdict", "1 2 3 !StackOverflow currentdict"},
		example{"1 2 3 save", "1 2 3 !StackOverflow save"},
		example{"1 2 /add where", "1 2 /add !StackOverflow where"},
		example{"1 2 /foo where", "1 2 false"},
		example{"1 2 (abc) (b) search", "1 2 (abc) !StackOverflow scan"},
		example{"(abc) (b) search", "(abc) (b) !StackOverflow search"},
		example{"(abc) (d) search", "(abc) false"},
		example{"3 array aload", "[null null null] !StackOverflow aload"},
	)
}

// P11.3: >>: pairs, the last of two with one key in the first one's place; room for as many as there were.
func TestDictOfPairs(t *testing.T) {
	check(t, small,
		example{"<< >>", "0<<>>"},
		example{"<< /a 1 >>", "1<</a 1>>"},
		example{"<< /b 1 /a 2 3 4 >>", "3<</b 1 /a 2 3 4>>"},
		example{"<< /a 1 (a) 2 /b 3 >>", "3<</a 2 /b 3>>"},
		example{"<< 2.0 1 null 3 >>", "mark 2.0 1 null 3 !TypeCheck >>"},
		example{"<< 2.0 1 /a null >>", "2<<2 1 /a null>>"},
		example{"<< /a << /b 1 >> >>", "1<</a 1<</b 1>>>>"},
		example{"mark /a 1 >>", "1<</a 1>>"},
		example{"[ /a 1 >>", "1<</a 1>>"},
		example{"<< /a >>", "mark /a !RangeCheck >>"},
		example{"<< null >>", "mark null !RangeCheck >>"},
		example{"<< 1 2 3 >>", "mark 1 2 3 !RangeCheck >>"},
		example{"<< null 1 >>", "mark null 1 !TypeCheck >>"},
		example{"<< /a 1 null 1 >>", "mark /a 1 null 1 !TypeCheck >>"},
		example{"{ << 128 string 1 >> } stopped exch pop exch pop", "mark true"},
		example{"<< 127 string 1 >> length", "1"},
		example{"<< /a 1 >> dup /a 2 put", "1<</a 2>>"},
		example{"<< /a 1 >> dup /b 2 put", "1<</a 1>> 1<</a 1>> /b 2 !DictFull put"},
		example{"<< /a 1 >> wcheck", "true"},
	)
	least := limit(func(l *api.Limits) { l.Cells = 2000 })
	for left, want := range map[int]string{5: "2<<1 2 3 4>>", 4: "mark 1 2 3 4 !VMError >>"} {
		check(t, least, example{strconv.Itoa(1399-left) + " array pop << 1 2 3 4 >>", want})
	}
	for left, want := range map[int]string{5: "[1 2 3 4]", 4: "mark 1 2 3 4 !VMError ]"} {
		check(t, least, example{strconv.Itoa(1399-left) + " array pop [ 1 2 3 4 ]", want})
	}
}

// P11.3, R6: a dictionary that can't be made takes no cells.
func TestNoCellsOfWrongPairs(t *testing.T) {
	m := machine(t, small, "{ << /a 1 null 2 >> } stopped { << 1 >> } stopped")
	free := m.Store().Free() - 7 - 4
	if s := finish(m); m.Store().Free() != free {
		t.Errorf("%s: %d cells are left, not %d", told(s), m.Store().Free(), free)
	}
}

// P11.3: astore: an array has what is below it, and stays.
func TestAstore(t *testing.T) {
	check(t, small,
		example{"1 2 3 3 array astore", "[1 2 3]"},
		example{"1 2 3 2 array astore", "1 [2 3]"},
		example{"0 array astore", "[]"},
		example{"1 0 array astore", "1 []"},
		example{"1 2 { 7 8 } astore", "{1 2}"},
		example{"[ 7 8 9 ] dup 1 1 getinterval 5 exch astore pop", "[7 5 9]"},
		example{"1 2 3 array astore", "1 2 [null null null] !StackUnderflow astore"},
		example{"3 array astore", "[null null null] !StackUnderflow astore"},
		example{"1 2 2 array readonly astore", "1 2 [null null] !InvalidAccess astore"},
		example{"2 array executeonly astore", "[null null] !InvalidAccess astore"},
		example{"2 array noaccess astore", "[null null] !InvalidAccess astore"},
		example{"1 2 (ab) astore", "1 2 (ab) !TypeCheck astore"},
		example{"astore", "!StackUnderflow astore"},
		example{"1 array dup astore", "[[[[..]]]]"},
	)
}

// P11.3: gt ge lt le: of two strings chapter 9's, else chapter 8's.
func TestOrder(t *testing.T) {
	check(t, small,
		example{"1 2 lt 1 2 gt 2 2 ge 2.5 2 le", "true false true false"},
		example{"(a) (b) lt (a) (b) gt (b) (b) ge (b) (a) le", "true false true false"},
		example{"(a) 1 lt", "(a) 1 !TypeCheck lt"},
		example{"1 (a) gt", "1 (a) !TypeCheck gt"},
		example{"/a /b ge", "/a /b !TypeCheck ge"},
		example{"/a (b) le", "/a (b) !TypeCheck le"},
		example{"(a) noaccess (b) lt", "(a) (b) !InvalidAccess lt"},
		example{"(a) lt", "(a) !StackUnderflow lt"},
		example{"(a) (b) add", "(a) (b) !TypeCheck add"},
		example{"(a) (b) and", "(a) (b) !TypeCheck and"},
	)
}

// samples answers objects of every Kind, some of them twice or more.
func samples(t *testing.T, s *store.Store) []api.Obj {
	t.Helper()
	text := func(b string) api.Obj { o, e := s.Text([]byte(b)); return taken(t, o, e) }
	list := func(items ...api.Obj) api.Obj { o, e := s.List(items...); return taken(t, o, e) }
	dict, e := s.Dict(2)
	taken(t, dict, e)
	if e := s.Set(dict, name("a"), whole(1)); e != api.OK {
		t.Fatal(e)
	}
	locked := text("lock")
	locked.Access = api.NoAccess
	return []api.Obj{
		{}, whole(0), whole(2), whole(-1), part(98304), truth(true), truth(false), {Kind: api.Mark}, name("a"), run(name("zzz")), text("abcd"), text("b"), text("12"), locked,
		list(whole(1), whole(2)), run(list(whole(3))), dict, {Kind: api.Op, Exec: true, Name: "add"}, {Kind: api.Save, N: 99},
	}
}

// elder does an operator as its own layer does.
func elder(s *store.Store, op string, args []api.Obj) (list []api.Obj, e api.Errno, ok bool) {
	texts := len(args) == 2 && args[0].Kind == api.String && args[1].Kind == api.String
	if n, ok := coll.Known(op); ok && n == len(args) && (texts || op[0] != 'g' && op[0] != 'l' || len(op) > 2) {
		list, e = coll.Do(s, op, args...)
		return list, e, true
	}
	if n, ok := arith.Known(op); ok && n == len(args) {
		list, e = arith.Do(op, args...)
		return list, e, true
	}
	if n, ok := conv.Known(op); ok && n == len(args) {
		list, e = conv.Do(s, op, args...)
		return list, e, true
	}
	return nil, api.OK, false
}

// all calls f with all lists of n of these objects.
func all(n int, objects []api.Obj, f func(args []api.Obj)) {
	if n == 0 {
		f(nil)
		return
	}
	all(n-1, objects, func(args []api.Obj) {
		for _, o := range objects {
			f(append(slices.Clone(args), o))
		}
	})
}

// same tells whether two stores have the same of what these objects tell of.
func same(a, b *store.Store, list []api.Obj) bool {
	if a.Free() != b.Free() {
		return false
	}
	for _, o := range list {
		x, _ := a.Bytes(o)
		y, _ := b.Bytes(o)
		v, _ := a.Items(o)
		w, _ := b.Items(o)
		n, _, _ := a.Size(o)
		m, _, _ := b.Size(o)
		if string(x) != string(y) || !slices.Equal(v, w) || n != m || a.Access(o) != b.Access(o) {
			return false
		}
	}
	return true
}

// P11.3: the elder layers' operators, with operands of every Kind: what they hand over, or have as an error, what they
// do to the store, and the operands below.
func TestElderOperators(t *testing.T) {
	for _, op := range exec.Names()[:24+17+14] {
		for n := 1; n <= 3; n++ {
			m := machine(t, great, op)
			objects := samples(t, m.Store())
			if n == 3 {
				objects = slices.Concat(objects[1:5], objects[8:9], objects[10:12], objects[13:15], objects[16:17])
			}
			all(n, objects, func(args []api.Obj) {
				if _, _, ok := elder(m.Store().Copy(), op, args); !ok || op == "copy" && args[1].Kind == api.Int {
					return
				}
				checkElder(t, op, args)
			})
		}
	}
}

func checkElder(t *testing.T, op string, args []api.Obj) {
	t.Helper()
	m := machine(t, small, op)
	objects := samples(t, m.Store())
	want := m.Store().Copy()
	list, e, _ := elder(want, op, args)
	if e != api.OK {
		list = args
	}
	push(t, m, name("below"))
	push(t, m, args...)
	s := m.Step()
	status := exec.Status{}
	if e != api.OK {
		status = exec.Status{Kind: exec.Failed, Error: e, Name: op}
	}
	if s != status || !slices.Equal(m.Operands().All(), append([]api.Obj{name("below")}, list...)) || !same(m.Store(), want, objects) {
		t.Errorf("%s of %s: %s, not %s", op, texts(m, args, 0), outcome(m, s), texts(m, list, 0)+told(status))
	}
}

// P11.3: each operator with too few operands: StackUnderflow, whatever there are, and they stay.
func TestTooFewOperands(t *testing.T) {
	needs := map[string]int{
		"pop": 1, "exch": 2, "dup": 1, "index": 1, "roll": 2, "astore": 1, "exec": 1, "if": 2, "ifelse": 3, "for": 4, "repeat": 2, "loop": 1, "forall": 2, "stopped": 1,
		"begin": 1, "def": 2, "load": 1, "store": 2, "where": 1, "bind": 1, "restore": 1,
	}
	for _, op := range exec.Names() {
		for _, known := range []func(string) (int, bool){arith.Known, coll.Known, conv.Known} {
			if n, ok := known(op); ok {
				needs[op] = n
			}
		}
		for n := range needs[op] {
			objects := samples(t, machine(t, small, "").Store())
			for _, o := range objects {
				if op == "copy" && o.Kind == api.Int {
					continue
				}
				m := machine(t, small, "{ "+op+" } exec")
				samples(t, m.Store())
				args := slices.Repeat([]api.Obj{o}, n)
				push(t, m, args...)
				s := finish(m)
				if told(s) != "!StackUnderflow "+op || !slices.Equal(m.Operands().All(), args) {
					t.Errorf("%s of %d: %s", op, n, outcome(m, s))
				}
			}
		}
	}
}

// kinds are what the machine's own operators take, by a letter each: any, Int, number, Bool, proc, Array, Dict, key,
// Save, goes (what forall goes through).
var kinds = map[string]string{
	"index": "i", "roll": "ii", "astore": "a", "if": "bp", "ifelse": "bpp", "for": "nnnp", "repeat": "ip", "loop": "p", "forall": "gp", "begin": "d", "def": "k*", "load": "k", "store": "k*", "where": "k", "bind": "p", "restore": "s",
}

func isOf(letter byte, o api.Obj) bool {
	switch letter {
	case 'i':
		return o.Kind == api.Int
	case 'n':
		return o.Kind == api.Int || o.Kind == api.Real
	case 'b':
		return o.Kind == api.Bool
	case 'p':
		return o.Kind == api.Array && o.Exec
	case 'a':
		return o.Kind == api.Array
	case 'd':
		return o.Kind == api.Dict
	case 'k':
		return o.Kind != api.Null
	case 's':
		return o.Kind == api.Save
	case 'g':
		return o.Kind == api.Array || o.Kind == api.Dict || o.Kind == api.String
	}
	return true
}

// P11.3: operands of every other Kind, in every place: TypeCheck, and they stay; of those that are taken no TypeCheck.
func TestWrongKinds(t *testing.T) {
	for op, letters := range kinds {
		m := machine(t, small, "")
		objects := samples(t, m.Store())
		if len(letters) > 2 {
			objects = slices.Concat(objects[:3], objects[4:6], objects[9:11], objects[14:17])
		}
		all(len(letters), objects, func(args []api.Obj) {
			right := true
			for i, o := range args {
				right = right && isOf(letters[i], o)
			}
			m := machine(t, small, "{ "+op+" } exec")
			samples(t, m.Store())
			push(t, m, args...)
			m.Step()
			m.Step()
			s := m.Step()
			wrong := told(s) == "!TypeCheck "+op
			if wrong == right || wrong && !slices.Equal(m.Operands().All(), args) {
				t.Errorf("%s of %s: %s", op, texts(m, args, 0), outcome(m, s))
			}
		})
	}
}

// R1: operands that no program has: numbers that are none, and objects that tell of nothing.
func TestOperandsThatAreNone(t *testing.T) {
	far := []api.Obj{whole(api.MaxInt + 1), whole(-1 << 60), part(api.MaxFix + 1), run(api.Obj{Kind: api.Array, Ref: 99999, Len: 5}), {Kind: api.Array, Ref: -1, Len: 1 << 60}, run(api.Obj{Kind: api.String, Ref: 99999}), {Kind: api.Dict, Ref: 99999}, run(api.Obj{Kind: 77}), {Kind: -1}, run(name("")), run(api.Obj{Kind: api.Op})}
	for _, op := range exec.Names() {
		for _, o := range far {
			for _, below := range []api.Obj{o, far[0], far[3], far[6], truth(true), whole(1)} {
				m := machine(t, limit(func(l *api.Limits) { l.Fuel = 40 }), op)
				p, e := m.Store().List(whole(1))
				taken(t, p, e)
				push(t, m, below, below, o, o)
				finish(m)
				m = machine(t, limit(func(l *api.Limits) { l.Fuel = 40 }), op)
				p, e = m.Store().List(whole(1))
				push(t, m, below, below, o, run(taken(t, p, e)))
				finish(m)
			}
		}
	}
}
