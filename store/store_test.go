package store_test

import (
	"bytes"
	"math"
	"slices"
	"strings"
	"testing"

	"mezzotint/api"
	"mezzotint/store"
)

var null = api.Obj{}

func whole(n int) api.Obj   { return api.Obj{Kind: api.Int, N: n} }
func realOf(n int) api.Obj  { return api.Obj{Kind: api.Real, N: n} }
func name(s string) api.Obj { return api.Obj{Kind: api.Name, Name: s} }

// executed is o as it would be executed, and locked up: what no key cares for.
func executed(o api.Obj) api.Obj {
	o.Exec, o.Access = true, api.NoAccess
	return o
}

// part is o with another From and Len, whether they lie in it or not.
func part(o api.Obj, from, n int) api.Obj {
	o.From, o.Len = from, n
	return o
}

func fresh(t *testing.T, cells int) *store.Store {
	t.Helper()
	s, e := store.New(cells)
	if e != api.OK || s == nil {
		t.Fatalf("New(%d): %v %d", cells, s, e)
	}
	return s
}

// got takes an answer that has to be an object.
func got(t *testing.T) func(o api.Obj, e api.Errno) api.Obj {
	return func(o api.Obj, e api.Errno) api.Obj {
		t.Helper()
		if e != api.OK {
			t.Fatalf("refused: %d", e)
		}
		return o
	}
}

func checkErrno(t *testing.T, what string, e, want api.Errno) {
	t.Helper()
	if e != want {
		t.Errorf("%s: %d, not %d", what, e, want)
	}
}

// checkRefused asks for an error and nothing beside it.
func checkRefused(t *testing.T, what string, want api.Errno) func(o api.Obj, e api.Errno) {
	return func(o api.Obj, e api.Errno) {
		t.Helper()
		if o != null || e != want {
			t.Errorf("%s: %+v %d, not %d", what, o, e, want)
		}
	}
}

func checkFree(t *testing.T, s *store.Store, want int) {
	t.Helper()
	if s.Free() != want {
		t.Errorf("%d cells are left, not %d", s.Free(), want)
	}
}

func checkBytes(t *testing.T, s *store.Store, o api.Obj, want string) {
	t.Helper()
	if b, e := s.Bytes(o); e != api.OK || string(b) != want {
		t.Errorf("Bytes(%+v): %q %d, not %q", o, b, e, want)
	}
}

func checkItems(t *testing.T, s *store.Store, o api.Obj, want ...api.Obj) {
	t.Helper()
	if list, e := s.Items(o); e != api.OK || !slices.Equal(list, want) {
		t.Errorf("Items(%+v): %+v %d, not %+v", o, list, e, want)
	}
	for i, x := range want {
		if y, e := s.At(o, i); e != api.OK || y != x {
			t.Errorf("At(%+v, %d): %+v %d, not %+v", o, i, y, e, x)
		}
	}
}

// checkPairs asks whether d has just these keys and values, in this order.
func checkPairs(t *testing.T, s *store.Store, d api.Obj, most int, want ...api.Obj) {
	t.Helper()
	if n, m, e := s.Size(d); n != len(want)/2 || m != most || e != api.OK {
		t.Errorf("Size: %d %d %d, not %d %d", n, m, e, len(want)/2, most)
	}
	for i := 0; i < len(want)/2; i++ {
		k, x := want[2*i], want[2*i+1]
		if gk, gx, ok := s.Pair(d, i); !ok || gk != k || gx != x {
			t.Errorf("Pair(%d): %+v %+v %v, not %+v %+v", i, gk, gx, ok, k, x)
		}
		if gx, ok := s.Find(d, k); !ok || gx != x {
			t.Errorf("Find(%+v): %+v %v, not %+v", k, gx, ok, x)
		}
	}
	for _, i := range []int{-1, len(want) / 2, len(want)/2 + 1, math.MinInt, math.MaxInt} {
		if k, x, ok := s.Pair(d, i); ok || k != null || x != null {
			t.Errorf("Pair(%d) of %d: %+v %+v %v", i, len(want)/2, k, x, ok)
		}
	}
}

// P5.1: from 1 to MaxCells cells.
func TestNew(t *testing.T) {
	for _, n := range []int{1, 2, 2000, api.MaxCells - 1, api.MaxCells} {
		checkFree(t, fresh(t, n), n)
	}
	for _, n := range []int{0, -1, math.MinInt, api.MaxCells + 1, math.MaxInt} {
		if s, e := store.New(n); s != nil || e != api.ErrArg {
			t.Errorf("New(%d): %v %d", n, s, e)
		}
	}
}

// maker is a call that makes something of that length, its greatest length, and the cells that it takes.
type maker struct {
	name  string
	kind  int
	most  int
	make  func(s *store.Store, n int) (api.Obj, api.Errno)
	cells func(n int) int
}

func makers() []maker {
	ofString := func(n int) int { return 1 + int(math.Ceil(float64(n)/8)) }
	ofArray := func(n int) int { return 1 + n }
	return []maker{
		{"String", api.String, api.MaxString, func(s *store.Store, n int) (api.Obj, api.Errno) { return s.String(n) }, ofString},
		{"Array", api.Array, api.MaxArray, func(s *store.Store, n int) (api.Obj, api.Errno) { return s.Array(n) }, ofArray},
		{"Dict", api.Dict, api.MaxDict, func(s *store.Store, n int) (api.Obj, api.Errno) { return s.Dict(n) }, func(n int) int { return 1 + 2*n }},
		{"Text", api.String, api.MaxString, func(s *store.Store, n int) (api.Obj, api.Errno) { return s.Text(make([]byte, n)) }, ofString},
		{"List", api.Array, api.MaxArray, func(s *store.Store, n int) (api.Obj, api.Errno) { return s.List(make([]api.Obj, n)...) }, ofArray},
	}
}

// P5.1: what each takes, and that just as many cells are enough, and one less is not.
func TestCells(t *testing.T) {
	for _, m := range makers() {
		for _, n := range []int{0, 1, 2, 7, 8, 9, 15, 16, 17, 100, 4095, 4096, 65535} {
			if n > m.most {
				continue
			}
			need := m.cells(n)
			s := fresh(t, need)
			o, e := m.make(s, n)
			length := n
			if m.kind == api.Dict {
				length = 0
			}
			if e != api.OK || o != (api.Obj{Kind: m.kind, Ref: o.Ref, Len: length}) || !s.Valid(o) || s.Free() != 0 {
				t.Errorf("%s(%d) in %d: %+v %d, %d left", m.name, n, need, o, e, s.Free())
			}
			checkRefused(t, "one more", api.VMError)(m.make(s, 0))
			if need > 1 {
				s = fresh(t, need-1)
				checkRefused(t, m.name+" in too few", api.VMError)(m.make(s, n))
				checkFree(t, s, need-1)
			}
		}
	}
	if c := makers()[0].cells; c(0) != 1 || c(7) != 2 || c(8) != 2 || c(9) != 3 {
		t.Error("cells of strings")
	}
}

// P5.1: several beside one another, till nothing is left.
func TestCellsAddUp(t *testing.T) {
	s := fresh(t, 20)
	got(t)(s.Array(3))
	checkFree(t, s, 16)
	got(t)(s.Dict(2))
	checkFree(t, s, 11)
	got(t)(s.String(9))
	checkFree(t, s, 8)
	got(t)(s.Text([]byte("12345678")))
	checkFree(t, s, 6)
	got(t)(s.List(whole(1), null))
	checkFree(t, s, 3)
	checkRefused(t, "Array(3)", api.VMError)(s.Array(3))
	checkRefused(t, "Dict(2)", api.VMError)(s.Dict(2))
	checkRefused(t, "String(17)", api.VMError)(s.String(17))
	checkFree(t, s, 3)
	got(t)(s.String(16))
	checkFree(t, s, 0)
}

// P5.1: lengths below 0, as great as may be, and greater by one; ahead of too few cells.
func TestLengths(t *testing.T) {
	for i, m := range makers() {
		s := fresh(t, api.MaxCells)
		if _, e := m.make(s, m.most); e != api.OK {
			t.Errorf("%s(%d): %d", m.name, m.most, e)
		}
		for _, s := range []*store.Store{s, fresh(t, 1)} {
			free := s.Free()
			checkRefused(t, m.name, api.LimitCheck)(m.make(s, m.most+1))
			if i < 3 {
				checkRefused(t, m.name, api.LimitCheck)(m.make(s, math.MaxInt))
				checkRefused(t, m.name, api.RangeCheck)(m.make(s, -1))
				checkRefused(t, m.name, api.RangeCheck)(m.make(s, math.MinInt))
			}
			checkFree(t, s, free)
		}
	}
}

// P5.1: what is new has bytes 0, nulls, no pairs, or just what was told.
func TestNewOnes(t *testing.T) {
	s := fresh(t, 1000)
	checkBytes(t, s, got(t)(s.String(9)), strings.Repeat("\x00", 9))
	checkBytes(t, s, got(t)(s.String(0)), "")
	checkItems(t, s, got(t)(s.Array(3)), null, null, null)
	checkItems(t, s, got(t)(s.Array(0)))
	d := got(t)(s.Dict(3))
	checkPairs(t, s, d, 3)
	if s.Access(d) != api.Unlimited {
		t.Errorf("a new dictionary's access: %d", s.Access(d))
	}
	checkPairs(t, s, got(t)(s.Dict(0)), 0)
	checkBytes(t, s, got(t)(s.Text([]byte("a\x00\xff"))), "a\x00\xff")
	checkBytes(t, s, got(t)(s.Text(nil)), "")
	items := []api.Obj{whole(1), executed(name("a")), null, d, executed(got(t)(s.Text([]byte("in")))), {Kind: 99, N: 5}}
	checkItems(t, s, got(t)(s.List(items...)), items...)
	checkItems(t, s, got(t)(s.List()))
}

// P5.1: an item that is not valid, wherever it stands, ahead of what else may be wrong.
func TestListOfWrongItems(t *testing.T) {
	s := fresh(t, 10)
	wrong := api.Obj{Kind: api.Array, Ref: -5}
	checkRefused(t, "the first", api.ErrArg)(s.List(wrong, whole(1)))
	checkRefused(t, "the last", api.ErrArg)(s.List(whole(1), whole(2), wrong))
	long := make([]api.Obj, api.MaxArray+1)
	checkRefused(t, "many", api.LimitCheck)(s.List(long...))
	checkRefused(t, "some", api.VMError)(s.List(long[:10]...))
	long[7] = wrong
	checkRefused(t, "some, and a wrong one", api.ErrArg)(s.List(long[:10]...))
	checkRefused(t, "many, and a wrong one", api.ErrArg)(s.List(long...))
	checkFree(t, s, 10)
}

// Words: what is valid.
func TestValid(t *testing.T) {
	s := fresh(t, 100)
	text, list, d := got(t)(s.Text([]byte("abcd"))), got(t)(s.Array(4)), got(t)(s.Dict(4))
	for _, kind := range []int{api.Null, api.Int, api.Real, api.Bool, api.Mark, api.Name, api.Op, api.Save, 11, -1, math.MinInt, math.MaxInt} {
		if o := (api.Obj{Kind: kind, Ref: -1, From: -1, Len: -1, Access: 77}); !s.Valid(o) {
			t.Errorf("%+v is not valid", o)
		}
	}
	for _, o := range []api.Obj{text, list} {
		for _, p := range [][2]int{{0, 4}, {0, 0}, {4, 0}, {2, 2}, {3, 1}, {2, 1}} {
			if o := executed(part(o, p[0], p[1])); !s.Valid(o) {
				t.Errorf("%+v is not valid", o)
			}
		}
		for _, p := range [][2]int{{0, 5}, {5, 0}, {4, 1}, {1, 4}, {-1, 1}, {-1, 0}, {1, -1}, {5, -1}, {math.MaxInt, 1}, {1, math.MaxInt}, {math.MaxInt, math.MaxInt}, {math.MinInt, math.MinInt}, {math.MinInt, math.MaxInt}} {
			if o := part(o, p[0], p[1]); s.Valid(o) {
				t.Errorf("%+v is valid", o)
			}
		}
	}
	if !s.Valid(d) || !s.Valid(executed(d)) {
		t.Error("a dictionary is not valid")
	}
	for _, o := range []api.Obj{part(d, -1, 0), part(d, 0, -1), part(d, 5, 5), part(d, math.MaxInt, math.MaxInt)} {
		if s.Valid(o) {
			t.Errorf("%+v is valid", o)
		}
	}
	for _, o := range []api.Obj{text, list, d} {
		for _, ref := range []int{-1, -o.Ref, 1000, math.MinInt, math.MaxInt} {
			wrong := part(o, 0, 0)
			if wrong.Ref = ref; s.Valid(wrong) {
				t.Errorf("%+v is valid", wrong)
			}
		}
		for _, kind := range []int{api.String, api.Array, api.Dict} {
			other := part(o, 0, 0)
			if other.Kind = kind; s.Valid(other) != (kind == o.Kind) {
				t.Errorf("%+v: %v", other, s.Valid(other))
			}
		}
	}
}

// P5.2: strings, written and read by wholes and by parts.
func TestStrings(t *testing.T) {
	s := fresh(t, 100)
	o := got(t)(s.Text([]byte("abcdefgh")))
	mid := got(t)(s.Part(o, 2, 4))
	checkBytes(t, s, mid, "cdef")
	in := got(t)(s.Part(mid, 1, 2))
	checkBytes(t, s, in, "de")
	checkErrno(t, "Write", s.Write(in, 1, []byte("X")), api.OK)
	checkBytes(t, s, o, "abcdXfgh")
	checkErrno(t, "Write", s.Write(o, 2, []byte("YZ")), api.OK)
	checkBytes(t, s, mid, "YZXf")
	checkErrno(t, "Write", s.Write(mid, 0, []byte("1234")), api.OK)
	checkBytes(t, s, o, "ab1234gh")
	checkErrno(t, "Write", s.Write(mid, 4, nil), api.OK)
	checkErrno(t, "Write", s.Write(mid, 0, nil), api.OK)
	checkErrno(t, "Write", s.Write(got(t)(s.String(0)), 0, nil), api.OK)
	for _, w := range []struct {
		at int
		b  string
	}{{-1, ""}, {-1, "a"}, {-1, "ab"}, {5, ""}, {4, "a"}, {3, "ab"}, {0, "abcde"}, {math.MinInt, ""}, {math.MinInt, "a"}, {math.MaxInt, ""}, {math.MaxInt, "a"}} {
		checkErrno(t, "Write", s.Write(mid, w.at, []byte(w.b)), api.RangeCheck)
	}
	checkBytes(t, s, o, "ab1234gh")
}

// P5.2: arrays, put and read by wholes and by parts.
func TestArrays(t *testing.T) {
	s := fresh(t, 100)
	o := got(t)(s.List(whole(0), whole(1), whole(2), whole(3), whole(4)))
	mid := got(t)(s.Part(o, 1, 3))
	checkItems(t, s, mid, whole(1), whole(2), whole(3))
	end := got(t)(s.Part(mid, 2, 1))
	checkItems(t, s, end, whole(3))
	x := executed(o)
	checkErrno(t, "Put", s.Put(end, 0, x), api.OK)
	checkItems(t, s, o, whole(0), whole(1), whole(2), x, whole(4))
	checkErrno(t, "Put", s.Put(o, 1, null), api.OK)
	checkItems(t, s, mid, null, whole(2), x)
	for _, i := range []int{-1, 3, 4, math.MinInt, math.MaxInt} {
		checkErrno(t, "Put", s.Put(mid, i, whole(9)), api.RangeCheck)
		checkRefused(t, "At", api.RangeCheck)(s.At(mid, i))
	}
	empty := got(t)(s.Part(o, 5, 0))
	checkErrno(t, "Put", s.Put(empty, 0, whole(9)), api.RangeCheck)
	checkRefused(t, "At", api.RangeCheck)(s.At(empty, 0))
	checkItems(t, s, o, whole(0), null, whole(2), x, whole(4))
}

// P5.2: parts of parts, empty ones, those at the end; all but the part is as it was.
func TestParts(t *testing.T) {
	s := fresh(t, 100)
	for _, o := range []api.Obj{got(t)(s.Text([]byte("abcdef"))), got(t)(s.Array(6))} {
		o.Exec, o.Access, o.N, o.Name = true, api.ReadOnly, 7, "kept"
		mid := got(t)(s.Part(o, 1, 4))
		for from := range 6 {
			for n := range 6 {
				p, e := s.Part(mid, from, n)
				if from+n > 4 {
					checkRefused(t, "Part", api.RangeCheck)(p, e)
				} else if e != api.OK || p != part(o, 1+from, n) {
					t.Errorf("Part(%+v, %d, %d): %+v %d", mid, from, n, p, e)
				}
			}
		}
		for _, w := range [][2]int{{-1, 1}, {-1, 0}, {1, -1}, {5, -1}, {5, 0}, {math.MaxInt, 1}, {1, math.MaxInt}, {math.MaxInt, math.MaxInt}, {math.MinInt, math.MinInt}, {math.MinInt, math.MaxInt}} {
			checkRefused(t, "Part", api.RangeCheck)(s.Part(mid, w[0], w[1]))
		}
	}
}

// checkArg asks everything about o that has to be an object of one of the kinds, and is not.
func checkArg(t *testing.T, s *store.Store, o api.Obj, kinds ...int) {
	t.Helper()
	asks := func(kind int) bool { return slices.Contains(kinds, kind) }
	if asks(api.String) {
		if b, e := s.Bytes(o); len(b) != 0 || e != api.ErrArg {
			t.Errorf("Bytes(%+v): %q %d", o, b, e)
		}
		for _, at := range []int{0, -1, 100} {
			checkErrno(t, "Write", s.Write(o, at, []byte("a")), api.ErrArg)
			checkErrno(t, "Write of nothing", s.Write(o, at, nil), api.ErrArg)
		}
	}
	if asks(api.Array) {
		if list, e := s.Items(o); len(list) != 0 || e != api.ErrArg {
			t.Errorf("Items(%+v): %+v %d", o, list, e)
		}
		for _, i := range []int{0, -1, 100} {
			checkRefused(t, "At", api.ErrArg)(s.At(o, i))
			checkErrno(t, "Put", s.Put(o, i, whole(1)), api.ErrArg)
		}
	}
	if asks(api.String) && asks(api.Array) {
		checkRefused(t, "Part", api.ErrArg)(s.Part(o, 0, 0))
		checkRefused(t, "Part", api.ErrArg)(s.Part(o, -1, 0))
	}
	if asks(api.Dict) {
		checkNoDict(t, s, o)
	}
}

func checkNoDict(t *testing.T, s *store.Store, o api.Obj) {
	t.Helper()
	for _, k := range []api.Obj{name("k"), null} {
		if x, ok := s.Find(o, k); ok || x != null {
			t.Errorf("Find(%+v): %+v %v", o, x, ok)
		}
		checkErrno(t, "Set", s.Set(o, k, whole(1)), api.ErrArg)
		checkErrno(t, "Drop", s.Drop(o, k), api.ErrArg)
	}
	if n, most, e := s.Size(o); n != 0 || most != 0 || e != api.ErrArg {
		t.Errorf("Size(%+v): %d %d %d", o, n, most, e)
	}
	if k, x, ok := s.Pair(o, 0); ok || k != null || x != null {
		t.Errorf("Pair(%+v): %+v %+v %v", o, k, x, ok)
	}
	if s.Access(o) != 0 {
		t.Errorf("Access(%+v): %d", o, s.Access(o))
	}
	checkErrno(t, "Lock", s.Lock(o, api.ReadOnly), api.ErrArg)
}

// P5.2: objects of another Kind than the call's, and objects that are not valid, ahead of wrong places.
func TestWrongObjects(t *testing.T) {
	s := fresh(t, 100)
	text, list, d := got(t)(s.Text([]byte("abcd"))), got(t)(s.Array(4)), got(t)(s.Dict(4))
	checkErrno(t, "Set", s.Set(d, name("k"), whole(1)), api.OK)
	checkErrno(t, "Lock", s.Lock(d, api.ReadOnly), api.OK)
	checkArg(t, s, text, api.Array, api.Dict)
	checkArg(t, s, list, api.String, api.Dict)
	checkArg(t, s, d, api.String, api.Array)
	for _, o := range []api.Obj{null, whole(0), realOf(0), {Kind: api.Bool}, {Kind: api.Mark}, name("a"), {Kind: api.Op}, {Kind: api.Save}, {Kind: 99}, {Kind: -1}} {
		o.Ref = text.Ref
		checkArg(t, s, o, api.String, api.Array, api.Dict)
	}
	for _, o := range []api.Obj{text, list, d} {
		gone := o
		gone.Ref = 1000
		for _, wrong := range []api.Obj{gone, part(o, -1, 0), part(o, 0, -1), part(o, 5, 0), part(o, 0, 5), part(o, math.MaxInt, math.MaxInt)} {
			checkArg(t, s, wrong, api.String, api.Array, api.Dict)
			checkErrno(t, "Put", s.Put(list, 0, wrong), api.ErrArg)
			checkErrno(t, "Put at a wrong place", s.Put(list, 4, wrong), api.ErrArg)
			checkErrno(t, "Set of a wrong value", s.Set(d, name("k"), wrong), api.ErrArg)
			checkErrno(t, "Set of a wrong key", s.Set(d, wrong, whole(2)), api.ErrArg)
			checkErrno(t, "Drop", s.Drop(d, wrong), api.ErrArg)
			checkRefused(t, "Key", api.ErrArg)(s.Key(wrong))
			if x, ok := s.Find(d, wrong); ok || x != null {
				t.Errorf("Find of %+v: %+v", wrong, x)
			}
		}
	}
	checkBytes(t, s, text, "abcd")
	checkItems(t, s, list, null, null, null, null)
	checkPairs(t, s, d, 4, name("k"), whole(1))
	checkFree(t, s, 100-2-5-9)
}

// P5.2: accesses are nobody's matter.
func TestAccessIsNoMatter(t *testing.T) {
	s := fresh(t, 100)
	text, list, d := executed(got(t)(s.Text([]byte("ab")))), executed(got(t)(s.Array(1))), executed(got(t)(s.Dict(1)))
	checkErrno(t, "Lock", s.Lock(d, api.NoAccess), api.OK)
	checkErrno(t, "Write", s.Write(text, 0, []byte("x")), api.OK)
	checkBytes(t, s, text, "xb")
	checkErrno(t, "Put", s.Put(list, 0, whole(1)), api.OK)
	checkItems(t, s, list, whole(1))
	checkErrno(t, "Set", s.Set(d, name("k"), whole(1)), api.OK)
	checkPairs(t, s, d, 1, name("k"), whole(1))
	checkErrno(t, "Drop", s.Drop(d, name("k")), api.OK)
	checkPairs(t, s, d, 1)
}

// P5.3: what stands for a key.
func TestKey(t *testing.T) {
	s := fresh(t, 1000)
	text, list, d := got(t)(s.Text([]byte("a\x00b"))), got(t)(s.Array(3)), got(t)(s.Dict(1))
	longest := got(t)(s.Text(bytes.Repeat([]byte("n"), 128)))
	odd := api.Obj{Kind: api.Real, N: -2 * api.One, Name: "no", Ref: 3, From: 4, Len: 5}
	long := name(strings.Repeat("n", 128))
	for _, c := range []struct{ k, want api.Obj }{
		{text, name("a\x00b")},
		{part(text, 1, 0), name("")},
		{part(text, 2, 1), name("b")},
		{part(longest, 1, 127), name(strings.Repeat("n", 127))},
		{name("a"), name("a")},
		{name(""), name("")},
		{long, long},
		{realOf(3 * api.One), whole(3)},
		{realOf(0), whole(0)},
		{realOf(-api.One), whole(-1)},
		{realOf(api.MinFix), whole(-32768)},
		{odd, whole(-2)},
		{realOf(math.MinInt), whole(math.MinInt / api.One)},
		{realOf(1), realOf(1)},
		{realOf(-1), realOf(-1)},
		{realOf(api.One / 2), realOf(api.One / 2)},
		{realOf(api.MaxFix), realOf(api.MaxFix)},
		{whole(api.One), whole(api.One)},
		{list, list},
		{part(list, 1, 2), part(list, 1, 2)},
		{d, d},
		{api.Obj{Kind: api.Bool, N: 1}, api.Obj{Kind: api.Bool, N: 1}},
		{api.Obj{Kind: api.Mark}, api.Obj{Kind: api.Mark}},
		{api.Obj{Kind: api.Op, Name: "add"}, api.Obj{Kind: api.Op, Name: "add"}},
		{api.Obj{Kind: api.Save, N: 4}, api.Obj{Kind: api.Save, N: 4}},
		{api.Obj{Kind: 99, N: 4}, api.Obj{Kind: 99, N: 4}},
	} {
		for _, k := range []api.Obj{c.k, executed(c.k)} {
			if g, e := s.Key(k); e != api.OK || g != c.want {
				t.Errorf("Key(%+v): %+v %d, not %+v", k, g, e, c.want)
			}
		}
	}
	checkRefused(t, "Key of null", api.TypeCheck)(s.Key(null))
	checkRefused(t, "Key of null", api.TypeCheck)(s.Key(executed(null)))
	checkRefused(t, "Key of a long string", api.LimitCheck)(s.Key(longest))
}

// P5.3: set, found, set again in its place, by whatever stands for the same key.
func TestDictionaries(t *testing.T) {
	s := fresh(t, 1000)
	d := got(t)(s.Dict(4))
	text := got(t)(s.Text([]byte("ab")))
	checkErrno(t, "Set", s.Set(d, executed(text), whole(1)), api.OK)
	checkErrno(t, "Set", s.Set(d, realOf(2*api.One), whole(2)), api.OK)
	checkErrno(t, "Set", s.Set(d, executed(realOf(5)), executed(text)), api.OK)
	checkPairs(t, s, d, 4, name("ab"), whole(1), whole(2), whole(2), realOf(5), executed(text))
	for _, k := range []api.Obj{name("ab"), executed(name("ab")), text} {
		if x, ok := s.Find(d, k); !ok || x != whole(1) {
			t.Errorf("Find(%+v): %+v %v", k, x, ok)
		}
	}
	for _, k := range []api.Obj{null, name("a"), name("abc"), whole(5), realOf(2), {Kind: api.Op, Name: "ab"}, {Kind: api.Name, Name: "ab", N: 1}, {Kind: api.Save, N: 2}, got(t)(s.String(128))} {
		if x, ok := s.Find(d, k); ok || x != null {
			t.Errorf("Find(%+v): %+v %v", k, x, ok)
		}
	}
	checkErrno(t, "Write", s.Write(text, 0, []byte("x")), api.OK) // the key was the bytes that were then
	checkErrno(t, "Set", s.Set(d, name("ab"), null), api.OK)
	checkErrno(t, "Set", s.Set(d, executed(whole(2)), d), api.OK)
	checkErrno(t, "Set", s.Set(d, text, whole(4)), api.OK)
	checkPairs(t, s, d, 4, name("ab"), null, whole(2), d, realOf(5), executed(text), name("xb"), whole(4))
	checkErrno(t, "Set", s.Set(d, name("new"), whole(5)), api.DictFull)
	checkErrno(t, "Set", s.Set(d, executed(name("xb")), whole(6)), api.OK)
	checkPairs(t, s, d, 4, name("ab"), null, whole(2), d, realOf(5), executed(text), name("xb"), whole(6))
	checkErrno(t, "Set", s.Set(got(t)(s.Dict(0)), name("new"), whole(5)), api.DictFull)
}

// P5.3: keys are equal by Kind, N, Name, Ref, From and Len, each of which makes another one.
func TestEqualKeys(t *testing.T) {
	s := fresh(t, 1000)
	d := got(t)(s.Dict(20))
	a, b := got(t)(s.Array(2)), got(t)(s.Array(2))
	keys := []api.Obj{a, b, part(a, 0, 1), part(a, 1, 1), part(a, 0, 0), part(a, 1, 0), d, got(t)(s.Dict(1)), whole(1), whole(2), {Kind: api.Bool, N: 1}, {Kind: api.Mark}, name("1"), {Kind: api.Op, Name: "1"}, {Kind: api.Save, N: 1}, {Kind: 99}}
	var want []api.Obj
	for i, k := range keys {
		checkErrno(t, "Set", s.Set(d, executed(k), whole(i)), api.OK)
		want = append(want, k, whole(i))
	}
	checkPairs(t, s, d, 20, want...)
}

// P5.3: errors of keys go ahead of what else is wrong with a pair.
func TestWrongKeys(t *testing.T) {
	s := fresh(t, 1000)
	full, empty := got(t)(s.Dict(1)), got(t)(s.Dict(1))
	checkErrno(t, "Set", s.Set(full, name("k"), whole(1)), api.OK)
	long := got(t)(s.String(128))
	for _, d := range []api.Obj{full, empty} {
		checkErrno(t, "Set of null", s.Set(d, null, whole(2)), api.TypeCheck)
		checkErrno(t, "Set of a long one", s.Set(d, long, whole(2)), api.LimitCheck)
		checkErrno(t, "Drop of null", s.Drop(d, null), api.TypeCheck)
		checkErrno(t, "Drop of a long one", s.Drop(d, long), api.LimitCheck)
		checkErrno(t, "Drop of none", s.Drop(d, name("none")), api.Undefined)
	}
	checkPairs(t, s, full, 1, name("k"), whole(1))
	checkPairs(t, s, empty, 1)
}

// P5.3: pairs are dropped from the beginning, the middle and the end; those behind move up.
func TestDrop(t *testing.T) {
	keys := []api.Obj{name("a"), name("b"), name("c"), name("d")}
	for drop := range keys {
		s := fresh(t, 100)
		d := got(t)(s.Dict(4))
		var want []api.Obj
		for i, k := range keys {
			checkErrno(t, "Set", s.Set(d, k, whole(i)), api.OK)
			if i != drop {
				want = append(want, k, whole(i))
			}
		}
		checkErrno(t, "Drop", s.Drop(d, executed(keys[drop])), api.OK)
		checkPairs(t, s, d, 4, want...)
		checkErrno(t, "Drop once more", s.Drop(d, keys[drop]), api.Undefined)
		checkErrno(t, "Set", s.Set(d, keys[drop], whole(9)), api.OK)
		checkPairs(t, s, d, 4, append(want, keys[drop], whole(9))...)
		checkFree(t, s, 91)
		for _, k := range keys {
			checkErrno(t, "Drop", s.Drop(d, k), api.OK)
		}
		checkPairs(t, s, d, 4)
	}
}

// P5.3: as many pairs as a dictionary may have at most.
func TestGreatDict(t *testing.T) {
	s := fresh(t, api.MaxCells)
	d := got(t)(s.Dict(api.MaxDict))
	for i := range api.MaxDict {
		if e := s.Set(d, whole(i), whole(-i)); e != api.OK {
			t.Fatalf("Set of pair %d: %d", i, e)
		}
	}
	checkErrno(t, "Set", s.Set(d, whole(-1), null), api.DictFull)
	if k, x, ok := s.Pair(d, api.MaxDict-1); !ok || k != whole(api.MaxDict-1) || x != whole(1-api.MaxDict) {
		t.Errorf("the last pair: %+v %+v %v", k, x, ok)
	}
}

// P5.3: accesses, whatever they were ahead; those of the objects are another matter.
func TestLock(t *testing.T) {
	s := fresh(t, 100)
	d, other := got(t)(s.Dict(1)), got(t)(s.Dict(1))
	for _, a := range []int{api.ReadOnly, api.NoAccess, api.Unlimited, api.ExecuteOnly, api.ExecuteOnly} {
		checkErrno(t, "Lock", s.Lock(d, a), api.OK)
		for _, wrong := range []int{-1, 4, math.MinInt, math.MaxInt} {
			checkErrno(t, "Lock", s.Lock(d, wrong), api.ErrArg)
		}
		if s.Access(d) != a || s.Access(executed(d)) != a || s.Access(other) != api.Unlimited {
			t.Errorf("accesses: %d %d %d, not %d", s.Access(d), s.Access(executed(d)), s.Access(other), a)
		}
	}
}
