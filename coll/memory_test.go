package coll_test

import (
	"slices"
	"testing"

	"mezzotint/api"
	"mezzotint/coll"
)

// spoil writes over all that can be reached from a list, spare room included.
func spoil(list []api.Obj) {
	list = list[:cap(list)]
	for i := range list {
		list[i] = api.Obj{Kind: api.Name, Name: "spoilt"}
	}
}

// samples answers an operator's operands, of which it does something, by its name.
func (b bench) samples() map[string][]api.Obj {
	b.Helper()
	a, s, d := b.list(wholes(0, 4)...), b.text("abcd"), b.dict(3, whole(0), mark)
	small, ab := b.part(a, 1, 2), b.text("ab")
	return map[string][]api.Obj{
		"string": {whole(3)}, "array": {whole(3)}, "dict": {whole(3)}, "length": {a}, "maxlength": {d}, "aload": {a},
		"get": {a, whole(1)}, "put": {d, name("k"), a}, "getinterval": {s, whole(1), whole(2)}, "putinterval": {a, whole(0), small},
		"copy": {b.text("xy"), s}, "known": {d, whole(0)}, "undef": {d, whole(0)}, "eq": {s, ab}, "ne": {a, a},
		"gt": {s, ab}, "ge": {s, ab}, "lt": {s, ab}, "le": {s, ab}, "search": {s, ab}, "anchorsearch": {s, ab},
	}
}

// R4, R5: what is handed in is neither changed (spare room included) nor kept, what is answered is new, and the same
// calls have the same answers.
func TestMemory(t *testing.T) {
	b := newBench(t, 1000)
	samples := b.samples()
	for _, name := range slices.Concat(operators...) {
		args, ok := samples[name]
		if !ok {
			t.Fatalf("no sample of %s", name)
		}
		room := slices.Concat(args, wholes(71, 5))
		before := slices.Clone(room)
		one, two := b.s.Copy(), b.s.Copy()
		first, e := coll.Do(one, name, room[:len(args)]...)
		if e != api.OK || !slices.Equal(room, before) {
			t.Errorf("%q of %+v: error %d, operands %+v", name, args, e, room)
		}
		want := slices.Clone(first)
		after := look(one, append(slices.Clone(args), want...))
		spoil(room)
		if !slices.Equal(first, want) {
			t.Errorf("%q of %+v: the answer has what was handed in", name, args)
		}
		spoil(first)
		if now := look(one, append(slices.Clone(args), want...)); now != after {
			t.Errorf("%q of %+v: the store has what was handed in, or answered: %s, not %s", name, args, now, after)
		}
		second, e := coll.Do(two, name, args...)
		if e != api.OK || !slices.Equal(second, want) || look(two, append(slices.Clone(args), want...)) != after {
			t.Errorf("%q of %+v: at first %+v, then %+v, error %d", name, args, want, second, e)
		}
	}
}

// P9.1: only those that make or write something change anything.
func TestReadersChangeNothing(t *testing.T) {
	for _, name := range slices.Concat(operators...) {
		b := newBench(t, 1000)
		args := b.samples()[name]
		before := look(b.s, args)
		if _, e := coll.Do(b.s, name, args...); e != api.OK {
			t.Errorf("%s: error %d", name, e)
		}
		writes := slices.Contains([]string{"string", "array", "dict", "put", "putinterval", "copy", "undef"}, name)
		if changed := look(b.s, args) != before; changed != writes {
			t.Errorf("%s: has it changed something? %t", name, changed)
		}
	}
}

// R5: a call that was refused leaves nothing behind for the next one.
func TestBehindAnError(t *testing.T) {
	b := newBench(t, 1000)
	a := b.list(wholes(0, 3)...)
	for range 3 {
		b.refuses(api.RangeCheck, "get", a, whole(3))
		b.gives(wholes(2, 1), "get", a, whole(2))
		b.refuses(api.TypeCheck, "get", a, no)
		b.refuses(api.ErrArg, "get", a)
		b.gives(wholes(0, 1), "get", a, whole(0))
	}
}

// P9.1: what put, putinterval and copy wrote into arrays and dictionaries is gone back behind as chapter 5 says.
func TestGoneBack(t *testing.T) {
	b := newBench(t, 1000)
	a, c, d, to := b.list(wholes(0, 4)...), b.list(mark, mark), b.dict(2, whole(1), mark), b.dict(2)
	before := look(b.s, []api.Obj{a, c, d, to})
	m := b.s.Mark()
	b.gives(nil, "put", a, whole(3), c)
	b.gives(nil, "putinterval", a, whole(1), c)
	b.gives([]api.Obj{b.part(a, 0, 2)}, "copy", c, a)
	b.gives([]api.Obj{to}, "copy", d, to)
	b.gives(nil, "undef", d, whole(1))
	b.gives(nil, "put", d, whole(2), a)
	b.checkItems(a, mark, mark, mark, c)
	b.checkPairs(to, whole(1), mark)
	b.checkPairs(d, whole(2), a)
	b.fine(b.s.Back(m))
	if after := look(b.s, []api.Obj{a, c, d, to}); after != before {
		t.Errorf("%s has become %s", before, after)
	}
}

// P9.1: as long as things may be.
func TestGreatest(t *testing.T) {
	b := newBench(t, api.MaxCells)
	const most = api.MaxArray
	list := wholes(0, most)
	a, c := b.list(list...), b.made("array", most, 1+most)
	b.gives([]api.Obj{c}, "copy", a, c)
	b.checkItems(c, list...)
	b.puts(b.part(c, 1, most-1), 0, b.part(c, 0, most-1))
	b.checkItems(c, append(wholes(0, 1), list[:most-1]...)...)
	b.gives(append(list, a), "aload", a)
	s, short := b.made("string", api.MaxString, 8193), b.text("\x00\x01")
	b.gives([]api.Obj{s, no}, "search", s, short)
	b.gives(nil, "put", s, whole(api.MaxString-1), whole(1))
	b.gives([]api.Obj{b.part(s, api.MaxString, 0), b.part(s, api.MaxString-2, 2), b.part(s, 0, api.MaxString-2), yes}, "search", s, short)
	d, to := b.dict(api.MaxDict), b.dict(api.MaxDict)
	var pairs []api.Obj
	for i := range api.MaxDict {
		pairs = append(pairs, whole(i), mark)
		b.fine(b.s.Set(d, whole(i), mark))
	}
	b.gives([]api.Obj{to}, "copy", d, to)
	b.checkPairs(to, pairs...)
	b.refuses(api.DictFull, "put", to, whole(-1), mark)
}
