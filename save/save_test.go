package save_test

import (
	"math"
	"slices"
	"testing"

	"mezzotint/api"
	"mezzotint/save"
	"mezzotint/store"
)

var null = api.Obj{}

func whole(n int) api.Obj   { return api.Obj{Kind: api.Int, N: n} }
func name(s string) api.Obj { return api.Obj{Kind: api.Name, Name: s} }

// part is o with another From and Len, whether they lie in it or not.
func part(o api.Obj, from, n int) api.Obj {
	o.From, o.Len = from, n
	return o
}

// fresh answers a store with so many cells, and its saves.
func fresh(t *testing.T, cells int) (*store.Store, *save.Saves) {
	t.Helper()
	s, e := store.New(cells)
	if e != api.OK {
		t.Fatalf("New(%d): %d", cells, e)
	}
	v := save.New(s)
	if v == nil {
		t.Fatal("no saves")
	}
	return s, v
}

// got takes an answer that has to be an object.
func got(t *testing.T) func(o api.Obj, e api.Errno) api.Obj {
	return func(o api.Obj, e api.Errno) api.Obj {
		t.Helper()
		if e != api.OK {
			t.Fatalf("refused: %d", e)
		}
		return o
	}
}

// saves answers n saves, each of which has to be one, with nothing beside its number, and alive.
func saves(t *testing.T, v *save.Saves, n int) []api.Obj {
	t.Helper()
	var list []api.Obj
	for range n {
		o := got(t)(v.Save())
		if o != (api.Obj{Kind: api.Save, N: o.N}) {
			t.Fatalf("Save: %+v", o)
		}
		if !v.Alive(o) {
			t.Fatalf("%+v is not alive", o)
		}
		list = append(list, o)
	}
	return list
}

func checkErrno(t *testing.T, what string, e, want api.Errno) {
	t.Helper()
	if e != want {
		t.Errorf("%s: %d, not %d", what, e, want)
	}
}

// checkAlive asks whether just the first n of these saves are alive, and no others.
func checkAlive(t *testing.T, v *save.Saves, list []api.Obj, n int) {
	t.Helper()
	if v.Depth() != n {
		t.Errorf("%d saves are alive, not %d", v.Depth(), n)
	}
	for i, o := range list {
		if v.Alive(o) != (i < n) {
			t.Errorf("save %d of which %d are alive: %v", i, n, v.Alive(o))
		}
	}
}

func checkItems(t *testing.T, s *store.Store, o api.Obj, want ...api.Obj) {
	t.Helper()
	if list, e := s.Items(o); e != api.OK || !slices.Equal(list, want) {
		t.Errorf("Items(%+v): %+v %d, not %+v", o, list, e, want)
	}
}

func checkPairs(t *testing.T, s *store.Store, d api.Obj, want ...api.Obj) {
	t.Helper()
	if n, _, e := s.Size(d); n != len(want)/2 || e != api.OK {
		t.Errorf("Size: %d %d, not %d", n, e, len(want)/2)
	}
	for i := range len(want) / 2 {
		if k, x, ok := s.Pair(d, i); !ok || k != want[2*i] || x != want[2*i+1] {
			t.Errorf("Pair(%d): %+v %+v %v, not %+v %+v", i, k, x, ok, want[2*i], want[2*i+1])
		}
	}
}

func checkBytes(t *testing.T, s *store.Store, o api.Obj, want string) {
	t.Helper()
	if b, e := s.Bytes(o); e != api.OK || string(b) != want {
		t.Errorf("Bytes(%+v): %q %d, not %q", o, b, e, want)
	}
}

func checkFree(t *testing.T, s *store.Store, want int) {
	t.Helper()
	if s.Free() != want {
		t.Errorf("%d cells are left, not %d", s.Free(), want)
	}
}

// P6.1: the document's example.
func TestExample(t *testing.T) {
	_, v := fresh(t, 10)
	list := saves(t, v, 2)
	checkErrno(t, "Restore", v.Restore(list[0]), api.OK)
	if v.Alive(list[1]) {
		t.Error("the second is alive")
	}
	checkAlive(t, v, list, 0)
}

// P6.1: as many as MaxSaves, and one more, which changes nothing.
func TestSave(t *testing.T) {
	_, v := fresh(t, 10)
	checkAlive(t, v, nil, 0)
	var list []api.Obj
	for range 3 {
		for v.Depth() < api.MaxSaves {
			n := v.Depth()
			list = append(list[:n], saves(t, v, 1)...)
			checkAlive(t, v, list, n+1)
		}
		for range 3 {
			if o, e := v.Save(); o != null || e != api.LimitCheck {
				t.Errorf("one more than MaxSaves: %+v %d", o, e)
			}
			checkAlive(t, v, list, api.MaxSaves)
		}
		checkErrno(t, "Restore", v.Restore(list[api.MaxSaves-2]), api.OK)
		checkAlive(t, v, list, api.MaxSaves-2)
	}
}

// P6.1: no number is given twice, also behind a Restore, nor by other Saves of the same store.
func TestNumbers(t *testing.T) {
	s, v := fresh(t, 100)
	w := save.New(s)
	had := map[int]bool{}
	for i := range 50 {
		var list []api.Obj
		for range 5 {
			list = append(list, saves(t, v, 1)...)
			list = append(list, saves(t, w, 1)...)
		}
		for _, o := range list {
			if had[o.N] {
				t.Fatalf("%d is given twice", o.N)
			}
			had[o.N] = true
		}
		if i%2 == 0 {
			checkErrno(t, "Restore", w.Restore(list[1]), api.OK)
		}
		checkErrno(t, "Restore", v.Restore(list[0]), api.OK)
	}
}

// P6.1: a save is told by its Kind and its number, whether it is executable or not.
func TestAlive(t *testing.T) {
	_, v := fresh(t, 10)
	o := saves(t, v, 1)[0]
	for kind := -1; kind <= api.Save+1; kind++ {
		if x := (api.Obj{Kind: kind, N: o.N}); v.Alive(x) != (kind == api.Save) {
			t.Errorf("%+v: %v", x, v.Alive(x))
		}
	}
	for _, n := range []int{o.N - 1, o.N + 1, -o.N, 0, math.MaxInt, math.MinInt} {
		if x := (api.Obj{Kind: api.Save, N: n}); v.Alive(x) {
			t.Errorf("%+v is alive", x)
		}
	}
	executed := o
	executed.Exec, executed.Access = true, api.NoAccess
	if !v.Alive(executed) {
		t.Errorf("%+v is not alive", executed)
	}
	checkErrno(t, "Restore", v.Restore(executed), api.OK)
	checkAlive(t, v, []api.Obj{o, executed, null}, 0)
}

// P6.2: those from the restored one on are not alive any more, those ahead of it are.
func TestRestoreFromTheMiddle(t *testing.T) {
	for middle := range api.MaxSaves {
		_, v := fresh(t, 10)
		list := saves(t, v, api.MaxSaves)
		checkErrno(t, "Restore", v.Restore(list[middle]), api.OK)
		checkAlive(t, v, list, middle)
		for _, gone := range list[middle:] {
			checkErrno(t, "Restore of what is gone", v.Restore(gone), api.InvalidRestore)
			checkAlive(t, v, list, middle)
		}
		younger := saves(t, v, api.MaxSaves-middle)
		checkAlive(t, v, append(slices.Clone(list[:middle]), younger...), api.MaxSaves)
		for _, gone := range list[middle:] {
			if v.Alive(gone) {
				t.Errorf("%+v is alive again", gone)
			}
		}
	}
}

// P6.2: saves within one another, restored in order, youngest first: each brings its own state.
func TestRestoreInOrder(t *testing.T) {
	s, v := fresh(t, 200)
	a, d := got(t)(s.Array(2)), got(t)(s.Dict(api.MaxSaves))
	var list []api.Obj
	for i := range api.MaxSaves {
		list = append(list, saves(t, v, 1)...)
		checkErrno(t, "Put", s.Put(a, 1, whole(i)), api.OK)
		checkErrno(t, "Set", s.Set(d, whole(i), whole(-i)), api.OK)
		got(t)(s.Array(3))
	}
	for i := api.MaxSaves - 1; i >= 0; i-- {
		checkErrno(t, "Restore", v.Restore(list[i], []api.Obj{a, d}), api.OK)
		checkAlive(t, v, list, i)
		checkFree(t, s, 200-3-1-2*api.MaxSaves-4*i)
		item, pairs := null, []api.Obj(nil)
		for k := range i {
			item = whole(k)
			pairs = append(pairs, whole(k), whole(-k))
		}
		checkItems(t, s, a, null, item)
		checkPairs(t, s, d, pairs...)
	}
}

// P6.2: arrays and dictionaries are as they were, accesses of these included; bytes of strings are as they are now.
func TestRestore(t *testing.T) {
	s, v := fresh(t, 100)
	text := got(t)(s.Text([]byte("abc")))
	a := got(t)(s.List(whole(1), text))
	d := got(t)(s.Dict(3))
	checkErrno(t, "Set", s.Set(d, name("k"), a), api.OK)
	checkErrno(t, "Set", s.Set(d, name("l"), null), api.OK)
	free := s.Free()
	for range 3 {
		o := saves(t, v, 1)[0]
		b := got(t)(s.Array(2))
		checkErrno(t, "Write", s.Write(text, 1, []byte("X")), api.OK)
		checkErrno(t, "Put", s.Put(a, 0, b), api.OK)
		checkErrno(t, "Put", s.Put(part(a, 1, 1), 0, d), api.OK)
		checkErrno(t, "Set", s.Set(d, name("m"), b), api.OK)
		checkErrno(t, "Set", s.Set(d, name("l"), text), api.OK)
		checkErrno(t, "Drop", s.Drop(d, name("k")), api.OK)
		checkErrno(t, "Lock", s.Lock(d, api.NoAccess), api.OK)
		checkErrno(t, "Restore", v.Restore(o, []api.Obj{a, d, text}), api.OK)
		checkBytes(t, s, text, "aXc")
		checkItems(t, s, a, whole(1), text)
		checkPairs(t, s, d, name("k"), a, name("l"), null)
		if s.Access(d) != api.Unlimited {
			t.Errorf("access: %d", s.Access(d))
		}
		checkFree(t, s, free)
		checkAlive(t, v, []api.Obj{o}, 0)
	}
	checkErrno(t, "Write", s.Write(text, 0, []byte("YZ")), api.OK)
	checkBytes(t, s, text, "YZc")
}

// P6.2: what was made since is gone, and its cells are free again; what was made ahead of it stays.
func TestMadeSinceIsGone(t *testing.T) {
	s, v := fresh(t, 100)
	elder := makeAll(t, s)
	one := saves(t, v, 1)[0]
	between := makeAll(t, s)
	two := saves(t, v, 1)[0]
	younger := makeAll(t, s)
	check := func(what string, list []api.Obj, want bool) {
		t.Helper()
		for _, o := range list {
			if s.Valid(o) != want {
				t.Errorf("%s: %+v: %v", what, o, s.Valid(o))
			}
		}
	}
	checkFree(t, s, 100-3*10)
	checkErrno(t, "Restore", v.Restore(two), api.OK)
	checkFree(t, s, 100-2*10)
	check("elder", elder, true)
	check("between", between, true)
	check("younger", younger, false)
	younger = append(younger, makeAll(t, s)...)
	checkErrno(t, "Restore", v.Restore(one), api.OK)
	checkFree(t, s, 100-10)
	check("elder", elder, true)
	check("between", between, false)
	check("younger", younger, false)
	got(t)(s.Array(89))
	checkFree(t, s, 0)
}

// makeAll answers one of each Kind that a store has: of 10 cells.
func makeAll(t *testing.T, s *store.Store) []api.Obj {
	t.Helper()
	return []api.Obj{got(t)(s.Text([]byte("ab"))), got(t)(s.Array(2)), got(t)(s.Dict(2))}
}

// P6.2: what is held has to be Elder than the save, in whichever list it is; a refused Restore changes nothing.
func TestHeld(t *testing.T) {
	s, v := fresh(t, 1000)
	eldest := makeAll(t, s)
	var list []api.Obj
	list = append(list, saves(t, v, 1)...)
	between := makeAll(t, s)
	list = append(list, saves(t, v, 1)...)
	younger := makeAll(t, s)
	list = append(list, saves(t, v, 1)...)
	checkErrno(t, "Put", s.Put(eldest[1], 0, whole(7)), api.OK)
	free := s.Free()
	elder := slices.Concat(eldest, between)
	fine := append(slices.Clone(elder), null, whole(1), name("a"), part(elder[0], 1, 1), part(elder[1], 2, 0), list[2])
	refuse := func(o api.Obj, bad api.Obj) {
		t.Helper()
		for _, held := range [][][]api.Obj{
			{{bad}},
			{{bad}, fine},
			{fine, {bad}},
			{nil, {}, {bad}, nil},
			{append([]api.Obj{bad}, fine[:3]...), fine[:3]},
			{eldest, append(slices.Clone(eldest), bad)},
			{eldest, {null, bad, null}, eldest},
		} {
			checkErrno(t, "Restore", v.Restore(o, held...), api.InvalidRestore)
		}
		checkAlive(t, v, list, 3)
		checkFree(t, s, free)
		checkItems(t, s, eldest[1], whole(7), null)
		if !s.Valid(younger[2]) {
			t.Error("something is gone")
		}
	}
	for _, o := range between {
		refuse(list[0], o)
	}
	for _, o := range younger {
		refuse(list[0], o)
		refuse(list[1], o)
	}
	refuse(list[1], part(younger[1], 0, 0))
	for _, o := range []api.Obj{part(eldest[0], 1, 2), part(eldest[1], -1, 1), part(eldest[1], 0, 3),
		{Kind: api.Dict, Ref: -1}, {Kind: api.Array, Ref: math.MaxInt}, {Kind: api.String, Ref: eldest[1].Ref}} {
		refuse(list[0], o)
		refuse(list[1], o)
		refuse(list[2], o)
	}
	checkErrno(t, "Restore", v.Restore(list[2], fine, younger), api.OK)
	checkErrno(t, "Restore", v.Restore(list[1], nil, fine, []api.Obj{}, between), api.OK)
	checkAlive(t, v, list, 1)
	checkErrno(t, "Restore, held by what is gone", v.Restore(list[0], eldest, younger[2:]), api.InvalidRestore)
	checkErrno(t, "Restore, held by what was made since", v.Restore(list[0], eldest, between[:1]), api.InvalidRestore)
	checkAlive(t, v, list, 1)
	checkErrno(t, "Restore", v.Restore(list[0], eldest), api.OK)
	checkAlive(t, v, list, 0)
}

// P6.2: what is within an array that is held is no matter, nor is it whether nothing is held.
func TestHeldWithin(t *testing.T) {
	s, v := fresh(t, 100)
	a := got(t)(s.Array(1))
	o := saves(t, v, 1)[0]
	b := got(t)(s.Array(1))
	checkErrno(t, "Put", s.Put(a, 0, b), api.OK)
	checkErrno(t, "Restore", v.Restore(o, []api.Obj{a}), api.OK)
	checkItems(t, s, a, null)
	for _, held := range [][][]api.Obj{nil, {}, {nil}, {nil, {}, nil}} {
		o = saves(t, v, 1)[0]
		got(t)(s.Array(1))
		checkErrno(t, "Restore", v.Restore(o, held...), api.OK)
		checkFree(t, s, 98)
	}
}

// P6.2: an object of another Kind is a TypeCheck, ahead of all else.
func TestRestoreOfOtherKinds(t *testing.T) {
	s, v := fresh(t, 100)
	o := saves(t, v, 1)[0]
	a := got(t)(s.Array(1))
	gone := api.Obj{Kind: api.Array, Ref: math.MaxInt}
	list := []api.Obj{a, gone, got(t)(s.Dict(1)), name("save"), null}
	for kind := api.Null; kind < api.Save; kind++ {
		list = append(list, api.Obj{Kind: kind, N: o.N})
	}
	list = append(list, api.Obj{Kind: -1, N: o.N}, api.Obj{Kind: api.Save + 1, N: o.N})
	for _, x := range list {
		checkErrno(t, "Restore", v.Restore(x), api.TypeCheck)
		checkErrno(t, "Restore", v.Restore(x, []api.Obj{a, gone}), api.TypeCheck)
		checkAlive(t, v, []api.Obj{o}, 1)
		if !s.Valid(a) {
			t.Fatal("the store went back")
		}
	}
}

// P6.2: saves that never were, or are not alive any more, while none is alive, and while others are.
func TestRestoreOfTheDead(t *testing.T) {
	s, v := fresh(t, 100)
	refuse := func(o api.Obj) {
		t.Helper()
		depth, a := v.Depth(), got(t)(s.Array(1))
		checkErrno(t, "Restore", v.Restore(o), api.InvalidRestore)
		checkErrno(t, "Restore", v.Restore(o, []api.Obj{null}), api.InvalidRestore)
		if v.Alive(o) || v.Depth() != depth || !s.Valid(a) {
			t.Errorf("%+v: alive %v, depth %d, not %d; the store went back: %v", o, v.Alive(o), v.Depth(), depth, !s.Valid(a))
		}
	}
	never := []int{0, -1, math.MaxInt, math.MinInt}
	for _, n := range never {
		refuse(api.Obj{Kind: api.Save, N: n})
	}
	list := saves(t, v, 3)
	for _, n := range never {
		refuse(api.Obj{Kind: api.Save, N: n})
	}
	checkErrno(t, "Restore", v.Restore(list[1]), api.OK)
	refuse(list[1])
	refuse(list[2])
	checkErrno(t, "Restore", v.Restore(list[0]), api.OK)
	again := saves(t, v, 3)
	for _, o := range list {
		refuse(o)
	}
	checkAlive(t, v, again, 3)
}
