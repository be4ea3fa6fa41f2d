package store_test

import (
	"math"
	"testing"

	"mezzotint/api"
	"mezzotint/store"
)

// marked answers a mark, which has to be above 0.
func marked(t *testing.T, s *store.Store) int {
	t.Helper()
	m := s.Mark()
	if m <= 0 {
		t.Fatalf("Mark: %d", m)
	}
	return m
}

func checkBack(t *testing.T, s *store.Store, mark int, want api.Errno) {
	t.Helper()
	if e := s.Back(mark); e != want {
		t.Errorf("Back(%d): %d, not %d", mark, e, want)
	}
}

// P5.4: the document's example.
func TestExample(t *testing.T) {
	s := fresh(t, 10)
	a := got(t)(s.Array(2))
	m := marked(t, s)
	checkErrno(t, "Put", s.Put(a, 0, whole(5)), api.OK)
	checkBack(t, s, m, api.OK)
	checkItems(t, s, a, null, null)
}

// P5.4: arrays are as they were, also those that were put to by parts, and often; bytes stay.
func TestBack(t *testing.T) {
	s := fresh(t, 100)
	a := got(t)(s.List(whole(0), whole(1), whole(2)))
	text := got(t)(s.Text([]byte("abc")))
	checkErrno(t, "Put", s.Put(a, 1, text), api.OK)
	m := marked(t, s)
	for range 3 {
		checkErrno(t, "Put", s.Put(a, 0, whole(7)), api.OK)
		checkErrno(t, "Put", s.Put(part(a, 1, 2), 0, whole(8)), api.OK)
		checkErrno(t, "Put", s.Put(a, 0, a), api.OK)
		checkItems(t, s, a, a, whole(8), whole(2))
		checkBack(t, s, m, api.OK)
		checkItems(t, s, a, whole(0), text, whole(2))
	}
	checkErrno(t, "Write", s.Write(text, 1, []byte("X")), api.OK)
	checkBack(t, s, m, api.OK)
	checkBytes(t, s, text, "aXc")
	checkItems(t, s, a, whole(0), text, whole(2))
}

// P5.4: dictionaries are as they were: their pairs, in their order, and their accesses.
func TestBackOfDictionaries(t *testing.T) {
	s := fresh(t, 100)
	d := got(t)(s.Dict(4))
	for i, k := range []string{"a", "b", "c"} {
		checkErrno(t, "Set", s.Set(d, name(k), whole(i)), api.OK)
	}
	checkErrno(t, "Lock", s.Lock(d, api.ReadOnly), api.OK)
	m := marked(t, s)
	for _, change := range []func(){
		func() { s.Set(d, name("b"), whole(9)) },
		func() { s.Set(d, name("b"), whole(9)); s.Set(d, name("b"), whole(8)) },
		func() { s.Set(d, name("d"), whole(9)); s.Set(d, name("d"), whole(8)) },
		func() { s.Drop(d, name("a")) },
		func() { s.Drop(d, name("b")) },
		func() { s.Drop(d, name("c")) },
		func() { s.Drop(d, name("a")); s.Set(d, name("c"), null); s.Set(d, name("a"), d) },
		func() { s.Set(d, name("a"), d); s.Drop(d, name("a")); s.Drop(d, name("c")); s.Set(d, name("b"), null) },
		func() { s.Lock(d, api.NoAccess); s.Lock(d, api.Unlimited) },
		func() { s.Lock(d, api.Unlimited); s.Lock(d, api.ReadOnly) },
		func() {
			for _, k := range []string{"a", "b", "c"} {
				s.Drop(d, name(k))
			}
			for i := range 4 {
				s.Set(d, whole(i), null)
			}
			s.Lock(d, api.NoAccess)
		},
	} {
		change()
		checkBack(t, s, m, api.OK)
		checkPairs(t, s, d, 4, name("a"), whole(0), name("b"), whole(1), name("c"), whole(2))
		if s.Access(d) != api.ReadOnly {
			t.Errorf("access: %d", s.Access(d))
		}
		if _, ok := s.Find(d, name("d")); ok {
			t.Error("a key that was not there at the mark")
		}
	}
}

// P5.4: what was made since is gone, its cells are free again, and nothing that is made later is taken for it.
func TestMadeSinceIsGone(t *testing.T) {
	s := fresh(t, 100)
	a, d := got(t)(s.Array(2)), got(t)(s.Dict(2))
	m := marked(t, s)
	var gone []api.Obj
	for range 3 {
		text, list, dict := got(t)(s.Text([]byte("ab"))), got(t)(s.Array(2)), got(t)(s.Dict(2))
		checkErrno(t, "Put", s.Put(a, 0, list), api.OK)
		checkErrno(t, "Put", s.Put(list, 0, dict), api.OK)
		checkErrno(t, "Set", s.Set(d, dict, text), api.OK)
		checkErrno(t, "Set", s.Set(dict, name("k"), list), api.OK)
		checkErrno(t, "Lock", s.Lock(dict, api.NoAccess), api.OK)
		gone = append(gone, text, list, dict)
		checkFree(t, s, 92-10)
		for _, o := range gone[:len(gone)-3] {
			if s.Valid(o) {
				t.Errorf("%+v is valid again", o)
			}
		}
		checkBack(t, s, m, api.OK)
		checkFree(t, s, 92)
		checkItems(t, s, a, null, null)
		checkPairs(t, s, d, 2)
		for _, o := range gone {
			if s.Valid(o) || s.Elder(o, m) {
				t.Errorf("%+v is not gone", o)
			}
			checkArg(t, s, o, api.String, api.Array, api.Dict)
			checkErrno(t, "Put", s.Put(a, 0, o), api.ErrArg)
			checkRefused(t, "List", api.ErrArg)(s.List(o))
		}
	}
	got(t)(s.Array(91))
	checkFree(t, s, 0)
}

// P5.4: what was made since and changed behind another mark.
func TestMadeBetweenMarks(t *testing.T) {
	s := fresh(t, 100)
	first := marked(t, s)
	a, d := got(t)(s.Array(1)), got(t)(s.Dict(2))
	checkErrno(t, "Put", s.Put(a, 0, whole(1)), api.OK)
	checkErrno(t, "Set", s.Set(d, name("k"), whole(1)), api.OK)
	second := marked(t, s)
	checkErrno(t, "Put", s.Put(a, 0, whole(2)), api.OK)
	checkErrno(t, "Set", s.Set(d, name("k"), whole(2)), api.OK)
	checkErrno(t, "Set", s.Set(d, name("l"), whole(3)), api.OK)
	checkErrno(t, "Lock", s.Lock(d, api.ReadOnly), api.OK)
	checkBack(t, s, second, api.OK)
	checkItems(t, s, a, whole(1))
	checkPairs(t, s, d, 2, name("k"), whole(1))
	if s.Access(d) != api.Unlimited {
		t.Errorf("access: %d", s.Access(d))
	}
	checkErrno(t, "Put", s.Put(a, 0, whole(3)), api.OK)
	checkErrno(t, "Drop", s.Drop(d, name("k")), api.OK)
	checkBack(t, s, first, api.OK)
	checkFree(t, s, 100)
	if s.Valid(a) || s.Valid(d) {
		t.Error("what was made since the first mark is there")
	}
}

// P5.4: marks within marks, gone back to twice; those behind one that was gone back to are none any more.
func TestMarksWithinMarks(t *testing.T) {
	s := fresh(t, 100)
	a := got(t)(s.Array(1))
	put := func(n int) { checkErrno(t, "Put", s.Put(a, 0, whole(n)), api.OK) }
	put(1)
	first := marked(t, s)
	put(2)
	second := marked(t, s)
	put(3)
	third := marked(t, s)
	put(4)
	checkBack(t, s, third, api.OK)
	checkItems(t, s, a, whole(3))
	put(5)
	checkBack(t, s, second, api.OK)
	checkItems(t, s, a, whole(2))
	checkBack(t, s, third, api.ErrArg)
	checkBack(t, s, second, api.OK)
	put(6)
	fourth := marked(t, s)
	if fourth == third || fourth == second || fourth == first {
		t.Errorf("marks %d %d %d, and then %d", first, second, third, fourth)
	}
	put(7)
	checkBack(t, s, third, api.ErrArg)
	checkItems(t, s, a, whole(7))
	checkBack(t, s, fourth, api.OK)
	checkItems(t, s, a, whole(6))
	checkBack(t, s, second, api.OK)
	checkItems(t, s, a, whole(2))
	checkBack(t, s, first, api.OK)
	checkItems(t, s, a, whole(1))
	for _, m := range []int{second, third, fourth} {
		checkBack(t, s, m, api.ErrArg)
	}
	put(8)
	checkBack(t, s, first, api.OK)
	checkItems(t, s, a, whole(1))
}

// P5.4: two marks of one state are two.
func TestMarksOfOneState(t *testing.T) {
	s := fresh(t, 100)
	a := got(t)(s.Array(1))
	first, second := marked(t, s), marked(t, s)
	checkErrno(t, "Put", s.Put(a, 0, whole(1)), api.OK)
	checkBack(t, s, second, api.OK)
	checkItems(t, s, a, null)
	checkErrno(t, "Put", s.Put(a, 0, whole(2)), api.OK)
	checkBack(t, s, first, api.OK)
	checkItems(t, s, a, null)
	checkBack(t, s, second, api.ErrArg)
}

// P5.4: numbers that are no marks; a refused Back changes nothing.
func TestWrongMarks(t *testing.T) {
	s := fresh(t, 100)
	a := got(t)(s.Array(1))
	for _, m := range []int{0, 1, -1, math.MinInt, math.MaxInt} {
		checkBack(t, s, m, api.ErrArg)
		if s.Elder(a, m) || s.Elder(whole(1), m) {
			t.Errorf("Elder than %d, which is no mark", m)
		}
	}
	m := marked(t, s)
	checkErrno(t, "Put", s.Put(a, 0, whole(1)), api.OK)
	got(t)(s.Array(2))
	for _, wrong := range []int{0, -m, m + 1, m + 2, math.MinInt, math.MaxInt} {
		checkBack(t, s, wrong, api.ErrArg)
		if s.Elder(a, wrong) || s.Elder(whole(1), wrong) {
			t.Errorf("Elder than %d, which is no mark", wrong)
		}
	}
	checkItems(t, s, a, whole(1))
	checkFree(t, s, 95)
}

// P5.4: what was there at a mark.
func TestElder(t *testing.T) {
	s := fresh(t, 100)
	makeAll := func() []api.Obj {
		return []api.Obj{got(t)(s.Text([]byte("ab"))), got(t)(s.Array(2)), got(t)(s.Dict(2))}
	}
	check := func(what string, list []api.Obj, mark int, want bool) {
		t.Helper()
		for _, o := range list {
			if s.Elder(o, mark) != want || s.Elder(executed(o), mark) != want {
				t.Errorf("%s: Elder(%+v, %d) is not %v", what, o, mark, want)
			}
		}
	}
	eldest := makeAll()
	first := marked(t, s)
	between := makeAll()
	second := marked(t, s)
	youngest := makeAll()
	others := []api.Obj{null, whole(1), realOf(1), {Kind: api.Bool}, {Kind: api.Mark}, name("a"), {Kind: api.Op}, {Kind: api.Save}, {Kind: 99}, {Kind: -1}}
	parts := []api.Obj{part(eldest[0], 1, 1), part(eldest[1], 2, 0)}
	wrong := []api.Obj{part(eldest[0], 1, 2), part(eldest[1], -1, 0), part(eldest[1], 0, 3), {Kind: api.Dict, Ref: 1000}, {Kind: api.Dict, Ref: -1}, {Kind: api.Array, Ref: eldest[0].Ref}}
	for _, m := range []int{first, second} {
		check("eldest", eldest, m, true)
		check("between", between, m, m == second)
		check("youngest", youngest, m, false)
		check("others", others, m, true)
		check("parts", parts, m, true)
		check("wrong", wrong, m, false)
	}
	checkBack(t, s, first, api.OK)
	check("eldest", eldest, first, true)
	check("gone", between, first, false)
	check("by a mark that is none any more", eldest, second, false)
	check("by a mark that is none any more", others, second, false)
	// What is made behind a Back is not taken for what was there, whatever Ref it has.
	check("made behind a Back", makeAll(), first, false)
}

// P5.5: a copy does the same, marks and what they lead back to included, and the two know nothing of each other.
func TestCopy(t *testing.T) {
	s := fresh(t, 100)
	a, d, text := got(t)(s.Array(2)), got(t)(s.Dict(3)), got(t)(s.Text([]byte("abc")))
	checkErrno(t, "Set", s.Set(d, name("k"), whole(1)), api.OK)
	checkErrno(t, "Lock", s.Lock(d, api.ReadOnly), api.OK)
	m := marked(t, s)
	checkErrno(t, "Put", s.Put(a, 0, whole(1)), api.OK)
	checkErrno(t, "Set", s.Set(d, name("l"), a), api.OK)
	since := got(t)(s.Array(1))
	c := s.Copy()
	if c == nil || c == s {
		t.Fatal("no copy")
	}
	checkErrno(t, "Put", s.Put(a, 1, whole(2)), api.OK)
	checkErrno(t, "Put", c.Put(a, 0, whole(3)), api.OK)
	checkErrno(t, "Write", s.Write(text, 0, []byte("S")), api.OK)
	checkErrno(t, "Write", c.Write(text, 1, []byte("C")), api.OK)
	checkErrno(t, "Set", s.Set(d, name("s"), null), api.OK)
	checkErrno(t, "Drop", c.Drop(d, name("k")), api.OK)
	checkErrno(t, "Lock", c.Lock(d, api.NoAccess), api.OK)
	checkErrno(t, "Put", c.Put(since, 0, whole(4)), api.OK)
	checkItems(t, s, a, whole(1), whole(2))
	checkItems(t, c, a, whole(3), null)
	checkBytes(t, s, text, "Sbc")
	checkBytes(t, c, text, "aCc")
	checkPairs(t, s, d, 3, name("k"), whole(1), name("l"), a, name("s"), null)
	checkPairs(t, c, d, 3, name("l"), a)
	checkItems(t, s, since, null)
	if s.Access(d) != api.ReadOnly || c.Access(d) != api.NoAccess {
		t.Errorf("accesses: %d %d", s.Access(d), c.Access(d))
	}
	checkBack(t, c, m, api.OK)
	checkItems(t, c, a, null, null)
	checkPairs(t, c, d, 3, name("k"), whole(1))
	checkFree(t, c, 88)
	checkFree(t, s, 86)
	if c.Access(d) != api.ReadOnly || c.Valid(since) || !s.Valid(since) {
		t.Error("Back of the copy")
	}
	checkItems(t, s, a, whole(1), whole(2))
	checkBack(t, s, m, api.OK)
	checkItems(t, s, a, null, null)
	checkBytes(t, s, text, "Sbc")
}

// P5.5: marks and objects to come have the same numbers in both, as the same is done with them.
func TestCopyGoesOnAlike(t *testing.T) {
	s := fresh(t, 1000)
	elder := marked(t, s)
	got(t)(s.Array(2))
	marked(t, s)
	checkBack(t, s, elder, api.OK)
	c := s.Copy()
	for range 3 {
		a, b := got(t)(s.Array(2)), got(t)(c.Array(2))
		m, n := marked(t, s), marked(t, c)
		if a != b || m != n {
			t.Errorf("%+v and %+v, marks %d and %d", a, b, m, n)
		}
		if d := c.Copy(); d.Free() != c.Free() || !d.Valid(a) || !d.Elder(a, m) || d.Elder(a, elder) {
			t.Error("a copy's copy")
		}
	}
	marked(t, c)
	got(t)(c.Array(2))
	if c.Free() == s.Free() {
		t.Error("cells are shared")
	}
}

// P5.5: a nil *Store.
func TestNilStore(t *testing.T) {
	var s *store.Store
	for _, n := range []int{0, 1, -1, math.MaxInt} {
		checkRefused(t, "String", api.ErrArg)(s.String(n))
		checkRefused(t, "Array", api.ErrArg)(s.Array(n))
		checkRefused(t, "Dict", api.ErrArg)(s.Dict(n))
		checkBack(t, s, n, api.ErrArg)
		if s.Elder(null, n) || s.Elder(whole(1), n) {
			t.Error("Elder")
		}
	}
	checkRefused(t, "Text", api.ErrArg)(s.Text(nil))
	checkRefused(t, "Text", api.ErrArg)(s.Text(make([]byte, api.MaxString+1)))
	checkRefused(t, "List", api.ErrArg)(s.List())
	checkRefused(t, "List", api.ErrArg)(s.List(whole(1)))
	if s.Free() != 0 || s.Mark() != 0 || s.Copy() != nil {
		t.Error("Free, Mark or Copy")
	}
	for _, o := range []api.Obj{null, whole(1), name("a"), {Kind: api.String}, {Kind: api.Array, Ref: 1}, {Kind: api.Dict, Ref: 1}} {
		if s.Valid(o) {
			t.Errorf("%+v is valid", o)
		}
		checkArg(t, s, o, api.String, api.Array, api.Dict)
		checkRefused(t, "Key", api.ErrArg)(s.Key(o))
	}
}

// R1: a Store that New did not make has no cells.
func TestZeroStore(t *testing.T) {
	var s store.Store
	checkFree(t, &s, 0)
	checkRefused(t, "String", api.VMError)(s.String(0))
	checkRefused(t, "Dict", api.VMError)(s.Dict(0))
	m := marked(t, &s)
	checkBack(t, &s, m, api.OK)
	checkArg(t, s.Copy(), api.Obj{Kind: api.Array}, api.String, api.Array, api.Dict)
}

// R4: what is handed in is not changed and not kept; what is answered is new memory.
func TestMemory(t *testing.T) {
	s := fresh(t, 100)
	room := []byte("abcdSPARE")
	text := got(t)(s.Text(room[:4]))
	checkErrno(t, "Write", s.Write(text, 1, room[1:3]), api.OK)
	b1, _ := s.Bytes(text)
	b2, _ := s.Bytes(text)
	if string(room) != "abcdSPARE" {
		t.Errorf("changed: %q", room)
	}
	b1[0], room[1], room[2] = '1', '2', '3'
	_ = append(b1[:1], '4', '5')
	if string(b2) != "abcd" {
		t.Errorf("two answers share memory: %q", b2)
	}
	checkBytes(t, s, text, "abcd")

	items := []api.Obj{whole(1), whole(2), whole(99)}
	list := got(t)(s.List(items[:2]...))
	i1, _ := s.Items(list)
	i2, _ := s.Items(list)
	i1[0], items[1] = null, null
	if i2[0] != whole(1) || items[0] != whole(1) || items[2] != whole(99) {
		t.Errorf("%+v %+v", i2, items)
	}
	checkItems(t, s, list, whole(1), whole(2))
}

// R5: the same calls, done again from the beginning, have the same answers.
func TestSameCallsSameAnswers(t *testing.T) {
	run := func() (list []api.Obj, marks []int) {
		s := fresh(t, 1000)
		for range 3 {
			list = append(list, got(t)(s.Array(2)), got(t)(s.Dict(2)))
			m := marked(t, s)
			list = append(list, got(t)(s.String(2)))
			checkBack(t, s, m, api.OK)
			list = append(list, got(t)(s.String(2)))
			marks = append(marks, m)
		}
		return list, marks
	}
	list, marks := run()
	for range 2 {
		again, others := run()
		for i, o := range again {
			if o != list[i] {
				t.Errorf("object %d: %+v, then %+v", i, list[i], o)
			}
		}
		for i, m := range others {
			if m != marks[i] {
				t.Errorf("mark %d: %d, then %d", i, marks[i], m)
			}
		}
	}
}
