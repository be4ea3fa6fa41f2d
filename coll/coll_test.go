package coll_test

import (
	"slices"
	"strings"
	"testing"

	"mezzotint/api"
	"mezzotint/coll"
)

var noOperators = []string{
	"", " ", "String", "STRING", "string ", " get", "ge t", "gett", "get\x00", "\x00", "\xff", "/get", "strings", "arr", "anchor", "search ",
	"add", "neg", "not", "pop", "dup", "exch", "cvs", "cvn", "type", "load", "store", "astore", "def", "where", "begin", "forall", "exec", "true", "false", "[", "]", "<<", ">>",
}

// P9.1: how many operands each operator has.
func TestKnown(t *testing.T) {
	for want, names := range operators {
		for _, name := range names {
			if n, ok := coll.Known(name); n != want || !ok {
				t.Errorf("Known of %s: %d %t", name, n, ok)
			}
		}
	}
	for _, name := range noOperators {
		if n, ok := coll.Known(name); n != 0 || ok {
			t.Errorf("Known of %q: %d %t", name, n, ok)
		}
	}
}

// P9.1: the document's example.
func TestExamples(t *testing.T) {
	b := newBench(t, 100)
	abcd, abc, sought := b.text("abcd"), b.text("abc"), b.text("b")
	b.gives([]api.Obj{b.part(abcd, 1, 2)}, "getinterval", abcd, whole(1), whole(2))
	b.checkText(b.part(abcd, 1, 2), "bc")
	b.gives([]api.Obj{b.part(abc, 2, 1), b.part(abc, 1, 1), b.part(abc, 0, 1), yes}, "search", abc, sought)
}

// made does an operator that makes a new thing, and asks whether that has those cells.
func (b bench) made(name string, n, cells int) api.Obj {
	b.Helper()
	free := b.s.Free()
	list, e := coll.Do(b.s, name, whole(n))
	if e != api.OK || len(list) != 1 {
		b.Fatalf("%s of %d: %+v, error %d", name, n, list, e)
	}
	if free-b.s.Free() != cells {
		b.Errorf("%s of %d: %d cells, not %d", name, n, free-b.s.Free(), cells)
	}
	o := list[0]
	if !b.s.Valid(o) || o != (api.Obj{Kind: o.Kind, Ref: o.Ref, Len: o.Len}) {
		b.Errorf("%s of %d: %+v", name, n, o)
	}
	return o
}

// P9.1: new ones of bytes 0, of nulls, of no pairs, at the lengths that may just be, and that may just not be.
func TestNew(t *testing.T) {
	b := newBench(t, api.MaxCells)
	for _, n := range []int{0, 1, 7, 8, 9, api.MaxString - 1, api.MaxString} {
		o := b.made("string", n, 1+(n+7)/8)
		if o.Kind != api.String {
			t.Errorf("string: %+v", o)
		}
		b.checkText(o, strings.Repeat("\x00", n))
	}
	for _, n := range []int{0, 1, 7, 8, 9, api.MaxArray - 1, api.MaxArray} {
		o := b.made("array", n, 1+n)
		if o.Kind != api.Array {
			t.Errorf("array: %+v", o)
		}
		b.checkItems(o, make([]api.Obj, n)...)
	}
	for _, n := range []int{0, 1, 7, api.MaxDict - 1, api.MaxDict} {
		o := b.made("dict", n, 1+2*n)
		pairs, most, e := b.s.Size(o)
		if o.Kind != api.Dict || pairs != 0 || most != n || e != api.OK || b.s.Access(o) != api.Unlimited {
			t.Errorf("dict: %+v %d %d %d", o, pairs, most, e)
		}
	}
	for name, most := range map[string]int{"string": api.MaxString, "array": api.MaxArray, "dict": api.MaxDict} {
		b.refuses(api.LimitCheck, name, whole(most+1))
		b.refuses(api.LimitCheck, name, whole(api.MaxInt))
		b.refuses(api.RangeCheck, name, whole(-1))
		b.refuses(api.RangeCheck, name, whole(api.MinInt))
	}
	if one, two := b.made("array", 2, 3), b.made("array", 2, 3); one == two {
		t.Errorf("twice the same: %+v", one)
	}
}

// P9.1: VMError, if there are not so many cells; the other errors go ahead of it.
func TestNewWithoutCells(t *testing.T) {
	b := newBench(t, 4)
	b.refuses(api.VMError, "array", whole(4))
	b.refuses(api.VMError, "string", whole(25))
	b.refuses(api.VMError, "dict", whole(2))
	b.refuses(api.VMError, "array", whole(api.MaxArray))
	b.refuses(api.LimitCheck, "array", whole(api.MaxArray+1))
	b.made("dict", 1, 3)
	b.refuses(api.VMError, "array", whole(1))
	b.made("string", 0, 1)
	for _, name := range []string{"string", "array", "dict"} {
		b.refuses(api.VMError, name, whole(0))
		b.refuses(api.RangeCheck, name, whole(-1))
	}
	b.refuses(api.LimitCheck, "dict", whole(api.MaxDict+1))
}

// P9.1: items, bytes, pairs, and bytes of a Name, of parts too.
func TestLength(t *testing.T) {
	b := newBench(t, 1000)
	for n := range 5 {
		b.gives(wholes(n, 1), "length", b.list(wholes(0, n)...))
		b.gives(wholes(n, 1), "length", b.text("abcd"[:n]))
		b.gives(wholes(n, 1), "length", name("abcd"[:n]))
		b.gives(wholes(n, 1), "length", api.Obj{Kind: api.Name, Exec: true, Access: api.NoAccess, Name: "abcd"[:n]})
		b.gives(wholes(n, 1), "length", b.part(b.text("abcdef"), 1, n))
		b.gives(wholes(n, 1), "length", b.part(b.part(b.list(wholes(0, 7)...), 1, 5), 1, n))
	}
	b.gives(wholes(200, 1), "length", name(strings.Repeat("\xff", 200)))
	d := b.dict(3)
	for n := range 4 {
		b.gives(wholes(n, 1), "length", d)
		b.gives(wholes(3, 1), "maxlength", d)
		if n < 3 {
			b.gives(nil, "put", d, whole(n), null)
		}
	}
	b.gives(nil, "undef", d, whole(1))
	b.gives(wholes(2, 1), "length", d)
	b.gives(wholes(0, 1), "maxlength", b.dict(0))
	b.gives(wholes(0, 1), "length", b.dict(0))
}

// outside are Ints that are no places of anything.
var outside = []int{-1, -2, api.MinInt + 1, api.MinInt, api.MaxString, api.MaxString + 1, one, api.MaxInt - 1, api.MaxInt}

// P9.1: each place of an array, of a string and of their parts, and the places next to them.
func TestGet(t *testing.T) {
	b := newBench(t, 1000)
	inner := b.list(mark)
	inner.Exec, inner.Access = true, api.ReadOnly
	items := []api.Obj{whole(7), inner, null, part(one), name("x")}
	a, s := b.list(items...), b.text("\x00a\x7f\x80\xff")
	bytes := []api.Obj{whole(0), whole('a'), whole(127), whole(128), whole(255)}
	for from := range 6 {
		for n := range 6 - from {
			ap, sp := b.part(a, from, n), b.part(s, from, n)
			for i := range n {
				b.gives(items[from+i:][:1], "get", ap, whole(i))
				b.gives(bytes[from+i:][:1], "get", sp, whole(i))
			}
			for _, i := range append(outside, n, n+1, -from-1) {
				b.refuses(api.RangeCheck, "get", ap, whole(i))
				b.refuses(api.RangeCheck, "get", sp, whole(i))
			}
		}
	}
}

// P9.1: likewise; what is next to a part stays.
func TestPut(t *testing.T) {
	for from := range 4 {
		for n := range 4 - from {
			b := newBench(t, 1000)
			b.enough()
			items, bytes := wholes(10, 3), []byte("abc")
			a, s := b.list(items...), b.text("abc")
			ap, sp := b.part(a, from, n), b.part(s, from, n)
			for i := range n {
				for _, c := range []int{1, 254, 255, 0} {
					x := b.list(whole(c))
					x.Exec, x.Access = true, api.NoAccess
					items[from+i], bytes[from+i] = x, byte(c)
					b.gives(nil, "put", ap, whole(i), x)
					b.gives(nil, "put", sp, whole(i), whole(c))
					b.checkItems(a, items...)
					b.checkText(s, string(bytes))
				}
			}
			for _, i := range append(outside, n, n+1, -from-1) {
				b.refuses(api.RangeCheck, "put", ap, whole(i), null)
				b.refuses(api.RangeCheck, "put", sp, whole(i), whole(0))
			}
		}
	}
}

// P9.1: a byte is an Int from 0 to 255, but an item is any object.
func TestPutOfNoByte(t *testing.T) {
	b := newBench(t, 100)
	s, a := b.text("abc"), b.list(null)
	for _, n := range []int{-1, 256, -256, 257, 511, one, api.MinInt, api.MaxInt} {
		b.refuses(api.RangeCheck, "put", s, whole(1), whole(n))
		b.refuses(api.RangeCheck, "put", s, whole(3), whole(n))
		b.gives(nil, "put", a, whole(0), whole(n))
		b.checkItems(a, whole(n))
	}
	for _, x := range []api.Obj{null, part(one), no, mark, name("a"), s, a, b.dict(1), whole(api.MaxInt + 1), whole(api.MinInt - 1), {Kind: api.Op}, {Kind: api.Save, N: 1}} {
		b.refuses(api.TypeCheck, "put", s, whole(1), x)
		b.refuses(api.TypeCheck, "put", s, whole(-1), x)
		b.gives(nil, "put", a, whole(0), x)
		b.checkItems(a, x)
	}
	b.checkText(s, "abc")
}

// P9.1, chapter 5's Part: all parts of parts, and what goes past them.
func TestGetInterval(t *testing.T) {
	b := newBench(t, 1000)
	a, s := b.list(wholes(0, 5)...), b.text("abcde")
	a.Exec, s.Access = true, api.ReadOnly
	for _, o := range []api.Obj{a, s, b.part(a, 1, 3), b.part(s, 2, 3), b.part(a, 5, 0), b.part(s, 0, 0)} {
		for from := -2; from <= o.Len+2; from++ {
			for n := -2; n <= o.Len+2; n++ {
				if from < 0 || n < 0 || from+n > o.Len {
					b.refuses(api.RangeCheck, "getinterval", o, whole(from), whole(n))
					continue
				}
				want := o
				want.From, want.Len = o.From+from, n
				b.gives([]api.Obj{want}, "getinterval", o, whole(from), whole(n))
			}
		}
		for _, n := range outside {
			b.refuses(api.RangeCheck, "getinterval", o, whole(n), whole(0))
			b.refuses(api.RangeCheck, "getinterval", o, whole(0), whole(n))
			b.refuses(api.RangeCheck, "getinterval", o, whole(n), whole(n))
		}
	}
}

// P9.1: a part of an array or a string is put into each part of the same one, at each place.
func TestPutIntervalOverlaps(t *testing.T) {
	const length = 5
	for _, x := range parts(length) {
		for _, o := range parts(length) {
			for at := -1; at <= length+1; at++ {
				b := newBench(t, 100)
				b.enough()
				a, s := b.list(wholes(0, length)...), b.text("abcde")
				ax, sx, ao, so := b.part(a, x[0], x[1]), b.part(s, x[0], x[1]), b.part(a, o[0], o[1]), b.part(s, o[0], o[1])
				if at < 0 || at+x[1] > o[1] {
					b.refuses(api.RangeCheck, "putinterval", ao, whole(at), ax)
					b.refuses(api.RangeCheck, "putinterval", so, whole(at), sx)
					continue
				}
				items, text := wholes(0, length), []byte("abcde")
				copy(items[o[0]+at:], wholes(x[0], x[1]))
				copy(text[o[0]+at:], "abcde"[x[0]:][:x[1]])
				b.puts(ao, at, ax)
				b.puts(so, at, sx)
				b.checkItems(a, items...)
				b.checkText(s, string(text))
			}
		}
	}
}

// parts answers from and n of all parts of that length.
func parts(length int) (list [][2]int) {
	for from := range length + 1 {
		for n := range length + 1 - from {
			list = append(list, [2]int{from, n})
		}
	}
	return list
}

// puts does a putinterval that is fine, once.
func (b bench) puts(o api.Obj, at int, x api.Obj) {
	b.Helper()
	if list, e := coll.Do(b.s, "putinterval", o, whole(at), x); len(list) != 0 || e != api.OK {
		b.Errorf("putinterval of %+v, %d, %+v: %+v, error %d", o, at, x, list, e)
	}
}

// P9.1: into another one, with just enough room, and one too few; of nothing, up to the end and not beyond.
func TestPutInterval(t *testing.T) {
	b := newBench(t, 1000)
	a, s := b.list(wholes(0, 4)...), b.text("abcd")
	x, y := b.list(mark, null, mark), b.text("xyz")
	x.Access, x.Exec, y.Access = api.ReadOnly, true, api.ReadOnly
	b.refuses(api.RangeCheck, "putinterval", a, whole(2), x)
	b.refuses(api.RangeCheck, "putinterval", s, whole(2), y)
	b.gives(nil, "putinterval", a, whole(1), x)
	b.gives(nil, "putinterval", s, whole(1), y)
	b.checkItems(a, whole(0), mark, null, mark)
	b.checkText(s, "axyz")
	b.gives(nil, "putinterval", b.part(a, 0, 3), whole(0), x)
	b.gives(nil, "putinterval", b.part(s, 0, 3), whole(0), y)
	b.checkItems(a, mark, null, mark, mark)
	b.checkText(s, "xyzz")
	b.refuses(api.RangeCheck, "putinterval", b.part(a, 1, 2), whole(0), x)
	b.refuses(api.RangeCheck, "putinterval", b.part(s, 1, 2), whole(0), y)
	for _, n := range outside {
		b.refuses(api.RangeCheck, "putinterval", a, whole(n), x)
		b.refuses(api.RangeCheck, "putinterval", s, whole(n), y)
		b.refuses(api.RangeCheck, "putinterval", a, whole(n), b.part(x, 0, 0))
		b.refuses(api.RangeCheck, "putinterval", s, whole(n), b.part(y, 0, 0))
	}
	b.gives(nil, "putinterval", a, whole(4), b.part(x, 2, 0))
	b.gives(nil, "putinterval", s, whole(4), b.text(""))
	b.refuses(api.RangeCheck, "putinterval", a, whole(5), b.part(x, 2, 0))
	b.refuses(api.RangeCheck, "putinterval", s, whole(5), b.text(""))
	b.gives(nil, "putinterval", b.list(), whole(0), b.list())
	b.gives(nil, "putinterval", b.text(""), whole(0), b.text(""))
	b.gives(nil, "putinterval", a, whole(0), a)
	b.checkItems(a, mark, null, mark, mark)
}

// P9.1: each part of an array or a string is copied into each part of the same one: the answer is the part of it.
func TestCopyOverlaps(t *testing.T) {
	const length = 5
	for _, x := range parts(length) {
		for _, o := range parts(length) {
			b := newBench(t, 100)
			b.enough()
			a, s := b.list(wholes(0, length)...), b.text("abcde")
			ax, sx, ao, so := b.part(a, x[0], x[1]), b.part(s, x[0], x[1]), b.part(a, o[0], o[1]), b.part(s, o[0], o[1])
			if x[1] > o[1] {
				b.refuses(api.RangeCheck, "copy", ax, ao)
				b.refuses(api.RangeCheck, "copy", sx, so)
				continue
			}
			items, text := wholes(0, length), []byte("abcde")
			copy(items[o[0]:], wholes(x[0], x[1]))
			copy(text[o[0]:], "abcde"[x[0]:][:x[1]])
			list, e := coll.Do(b.s, "copy", ax, ao)
			if e != api.OK || !slices.Equal(list, []api.Obj{b.part(ao, 0, x[1])}) {
				t.Errorf("copy of %+v, %+v: %+v, error %d", ax, ao, list, e)
			}
			list, e = coll.Do(b.s, "copy", sx, so)
			if e != api.OK || !slices.Equal(list, []api.Obj{b.part(so, 0, x[1])}) {
				t.Errorf("copy of %+v, %+v: %+v, error %d", sx, so, list, e)
			}
			b.checkItems(a, items...)
			b.checkText(s, string(text))
		}
	}
}

// P9.1: into another one: what is answered is the second's, Exec included, and not the first's.
func TestCopy(t *testing.T) {
	b := newBench(t, 1000)
	x, y := b.list(wholes(1, 3)...), b.text("xyz")
	x.Access, y.Access, y.Exec = api.ReadOnly, api.ReadOnly, true
	a, s := b.list(mark, mark, mark, mark), b.text("abcd")
	a.Exec = true
	b.gives([]api.Obj{b.part(a, 0, 3)}, "copy", x, a)
	b.gives([]api.Obj{b.part(s, 0, 3)}, "copy", y, s)
	b.checkItems(a, whole(1), whole(2), whole(3), mark)
	b.checkText(s, "xyzd")
	b.refuses(api.RangeCheck, "copy", x, b.part(a, 1, 2))
	b.refuses(api.RangeCheck, "copy", y, b.part(s, 1, 2))
	b.gives([]api.Obj{b.part(a, 1, 3)}, "copy", x, b.part(a, 1, 3))
	b.gives([]api.Obj{b.part(s, 1, 3)}, "copy", y, b.part(s, 1, 3))
	b.checkItems(a, whole(1), whole(1), whole(2), whole(3))
	b.checkText(s, "xxyz")
	b.gives([]api.Obj{b.part(a, 4, 0)}, "copy", b.list(), b.part(a, 4, 0))
	b.gives([]api.Obj{b.part(s, 2, 0)}, "copy", b.text(""), b.part(s, 2, 2))
	b.gives([]api.Obj{a}, "copy", a, a)
	b.checkItems(a, whole(1), whole(1), whole(2), whole(3))
	b.checkText(s, "xxyz")
}

// P9.1: dictionaries: the second has no pairs, and room for those of the first.
func TestCopyOfDictionaries(t *testing.T) {
	for n := range 4 {
		for most := range 5 {
			for already := range most + 1 {
				b := newBench(t, 100)
				var pairs []api.Obj
				for i := range n {
					pairs = append(pairs, whole(9-i), name("x"))
				}
				from, to := b.with(b.dict(n+1, pairs...), api.ReadOnly), b.dict(most)
				for i := range already {
					b.fine(b.s.Set(to, whole(i), null))
				}
				if already > 0 || most < n {
					b.refuses(api.RangeCheck, "copy", from, to)
					continue
				}
				to.Exec = true
				b.gives([]api.Obj{to}, "copy", from, to)
				b.checkPairs(to, pairs...)
				b.checkPairs(from, pairs...)
				if _, size, e := b.s.Size(to); size != most || e != api.OK || b.s.Access(to) != api.Unlimited || b.s.Access(from) != api.ReadOnly {
					t.Errorf("%d %d, %d %d", size, e, b.s.Access(to), b.s.Access(from))
				}
			}
		}
	}
}

// P9.1: keys of all Kinds and their order are copied, of a dictionary whose pairs came and went too; a dictionary
// without pairs may be copied to itself.
func TestCopyOfKeys(t *testing.T) {
	b := newBench(t, 1000)
	a := b.list(mark)
	keys := []api.Obj{name("k"), whole(3), no, part(one / 2), b.part(a, 1, 0), a, mark, {Kind: api.Op, Name: "k"}, {Kind: api.Save, N: 3}}
	from, to := b.dict(20), b.dict(9)
	for i, k := range keys {
		b.fine(b.s.Set(from, whole(100+i), null))
		b.fine(b.s.Set(from, k, whole(i)))
	}
	b.refuses(api.RangeCheck, "copy", from, to)
	for i := range keys {
		b.gives(nil, "undef", from, whole(100+i))
	}
	b.gives([]api.Obj{to}, "copy", from, to)
	var pairs []api.Obj
	for i, k := range keys {
		pairs = append(pairs, k, whole(i))
	}
	b.checkPairs(to, pairs...)
	b.gives(nil, "put", to, keys[4], mark)
	b.checkPairs(from, pairs...)
	b.refuses(api.RangeCheck, "copy", from, from)
	d := b.dict(1)
	b.gives([]api.Obj{d}, "copy", d, d)
	b.checkPairs(d)
}

// P9.1: the items, and the array as it is.
func TestAload(t *testing.T) {
	b := newBench(t, 100)
	inner := b.list()
	inner.Exec, inner.Access = true, api.NoAccess
	items := []api.Obj{whole(1), inner, null, mark}
	a := b.list(items...)
	a.Exec, a.Access = true, api.ReadOnly
	b.gives(append(slices.Clone(items), a), "aload", a)
	for _, p := range parts(4) {
		o := b.part(a, p[0], p[1])
		b.gives(append(slices.Clone(items[p[0]:][:p[1]]), o), "aload", o)
	}
	outer := b.list(a)
	b.gives([]api.Obj{a, outer}, "aload", outer)
}

// P9.1: keys that are there, that are not, and that are none.
func TestDictionaries(t *testing.T) {
	b := newBench(t, 2000)
	d := b.dict(4)
	proc := b.list()
	proc.Exec, proc.Access = true, api.ReadOnly
	run := api.Obj{Kind: api.Name, Name: "b", Exec: true, Access: api.NoAccess}
	b.gives([]api.Obj{no}, "known", d, name("b"))
	b.refuses(api.Undefined, "get", d, name("b"))
	b.gives(nil, "undef", d, name("b"))
	b.gives(nil, "put", d, name("b"), proc)
	for _, k := range []api.Obj{name("b"), run, b.text("b"), b.part(b.text("abc"), 1, 1), b.with(b.text("b"), api.NoAccess)} {
		b.gives([]api.Obj{yes}, "known", d, k)
		b.gives([]api.Obj{proc}, "get", d, k)
	}
	b.gives(nil, "put", d, part(2*one), mark)
	b.gives([]api.Obj{mark}, "get", d, whole(2))
	b.gives([]api.Obj{mark}, "get", d, part(2*one))
	for _, k := range []api.Obj{part(2*one + 1), whole(3), name("a"), b.text(""), b.text("B"), no, mark, d, proc, {Kind: api.Op, Name: "b"}} {
		b.gives([]api.Obj{no}, "known", d, k)
		b.refuses(api.Undefined, "get", d, k)
	}
	b.gives(nil, "put", d, run, null)
	b.checkPairs(d, name("b"), null, whole(2), mark)
	b.gives([]api.Obj{null}, "get", d, run)
	b.gives([]api.Obj{yes}, "known", d, run)
	b.gives(nil, "put", d, no, d)
	b.gives(nil, "put", d, b.text("last"), whole(4))
	b.checkPairs(d, name("b"), null, whole(2), mark, no, d, name("last"), whole(4))
	b.refuses(api.DictFull, "put", d, mark, null)
	b.gives(nil, "put", d, name("last"), whole(5))
	b.gives(nil, "undef", d, whole(3))
	b.gives(nil, "undef", d, part(2*one))
	b.checkPairs(d, name("b"), null, no, d, name("last"), whole(5))
	b.gives(nil, "put", d, mark, null)
	b.checkPairs(d, name("b"), null, no, d, name("last"), whole(5), mark, null)
	b.refuses(api.DictFull, "put", b.dict(0), whole(1), null)
}

// P9.1: chapter 5's Key's errors: of null, and of a string of more than MaxName bytes.
func TestKeysThatAreNone(t *testing.T) {
	b := newBench(t, 2000)
	d, full := b.dict(2), b.dict(0)
	just, long := b.text(strings.Repeat("k", api.MaxName)), b.text(strings.Repeat("k", api.MaxName+1))
	for _, c := range []struct {
		k api.Obj
		e api.Errno
	}{{null, api.TypeCheck}, {api.Obj{Exec: true}, api.TypeCheck}, {long, api.LimitCheck}} {
		b.refuses(c.e, "get", d, c.k)
		b.refuses(c.e, "known", d, c.k)
		b.refuses(c.e, "undef", d, c.k)
		b.refuses(c.e, "put", d, c.k, null)
		b.refuses(c.e, "put", full, c.k, null)
	}
	b.gives(nil, "put", d, just, mark)
	b.gives([]api.Obj{mark}, "get", d, just)
	b.gives([]api.Obj{mark}, "get", d, b.part(long, 1, api.MaxName))
	b.gives([]api.Obj{yes}, "known", d, just)
	b.gives(nil, "undef", d, just)
	b.checkPairs(d)
	b.gives(nil, "put", d, name(strings.Repeat("k", 200)), mark)
	b.gives([]api.Obj{yes}, "known", d, name(strings.Repeat("k", 200)))
}
