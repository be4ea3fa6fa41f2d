package coll_test

import (
	"strings"
	"testing"

	"mezzotint/api"
	"mezzotint/coll"
)

// shortTexts answers all texts of up to that many letters a and b.
func shortTexts(most int) []string {
	list := []string{""}
	for i := 0; len(list[i]) < most; i++ {
		list = append(list, list[i]+"a", list[i]+"b")
	}
	return list
}

// P9.1: each short text is sought in each one: at the first place, if it is in it several times, the empty one at the
// beginning.
func TestSearchOfShortTexts(t *testing.T) {
	b := newBench(t, 1000)
	whole, sought := b.text(".....#"), b.text("...#")
	text := b.part(whole, 1, 5)
	text.Exec, text.Access, sought.Access = true, api.ReadOnly, api.ReadOnly
	for _, x := range shortTexts(5) {
		for _, y := range shortTexts(3) {
			b.enough()
			b.fine(b.s.Write(b.with(whole, api.Unlimited), 1, []byte(x)))
			b.fine(b.s.Write(sought, 0, []byte(y)))
			o, p := b.part(text, 0, len(x)), b.part(sought, 0, len(y))
			search, anchor := []api.Obj{o, no}, []api.Obj{o, no}
			if at := strings.Index(x, y); at >= 0 {
				behind := b.part(o, at+len(y), len(x)-at-len(y))
				search = []api.Obj{behind, b.part(o, at, len(y)), b.part(o, 0, at), yes}
			}
			if strings.HasPrefix(x, y) {
				anchor = []api.Obj{b.part(o, len(y), len(x)-len(y)), b.part(o, 0, len(y)), yes}
			}
			b.gives(search, "search", o, p)
			b.gives(anchor, "anchorsearch", o, p)
			b.checkText(o, x)
			b.checkText(p, y)
		}
	}
}

// P9.1: of parts, of what is longer than the text, of any bytes, and of a text that is a part of the same string.
func TestSearch(t *testing.T) {
	b := newBench(t, 1000)
	o := b.part(b.text("xabcabcx"), 1, 6)
	part := func(from, n int) api.Obj { return b.part(o, from, n) }
	b.gives([]api.Obj{part(2, 4), part(1, 1), part(0, 1), yes}, "search", o, b.text("b"))
	b.gives([]api.Obj{part(2, 4), part(1, 1), part(0, 1), yes}, "search", o, part(4, 1))
	b.gives([]api.Obj{part(6, 0), part(0, 6), part(0, 0), yes}, "search", o, o)
	b.gives([]api.Obj{part(6, 0), part(0, 6), yes}, "anchorsearch", o, o)
	b.gives([]api.Obj{part(0, 6), part(0, 0), part(0, 0), yes}, "search", o, b.text(""))
	b.gives([]api.Obj{part(0, 6), part(0, 0), yes}, "anchorsearch", o, b.text(""))
	b.gives([]api.Obj{part(5, 1), part(2, 3), part(1, 1), yes}, "search", part(1, 5), b.text("cab"))
	b.gives([]api.Obj{o, no}, "search", o, b.text("abcabcx"))
	b.gives([]api.Obj{o, no}, "anchorsearch", o, b.text("abcabcx"))
	b.gives([]api.Obj{o, no}, "search", o, b.text("x"))
	b.gives([]api.Obj{o, no}, "search", o, b.text("B"))
	b.gives([]api.Obj{o, no}, "anchorsearch", o, b.text("b"))
	b.gives([]api.Obj{o, no}, "anchorsearch", o, b.text("abd"))
	none := b.text("")
	b.gives([]api.Obj{none, none, none, yes}, "search", none, b.text(""))
	b.gives([]api.Obj{none, none, yes}, "anchorsearch", none, b.text(""))
	b.gives([]api.Obj{none, no}, "search", none, b.text("\x00"))
	b.gives([]api.Obj{none, no}, "anchorsearch", none, b.text("\x00"))
	odd := b.text("\xff\x00\xc3\xa9\x80")
	b.gives([]api.Obj{b.part(odd, 4, 1), b.part(odd, 3, 1), b.part(odd, 0, 3), yes}, "search", odd, b.text("\xa9"))
	b.gives([]api.Obj{b.part(odd, 2, 3), b.part(odd, 0, 2), yes}, "anchorsearch", odd, b.text("\xff\x00"))
}

// P9.1: by their bytes, which go from 0 to 255; of two of which one begins with the other, the shorter one is below.
func TestOrder(t *testing.T) {
	texts := append(shortTexts(3), "\x00", "a\x00", "\x7f", "\x80", "\xff", "\xff\x00", "A", "aB", "\xc3\xa9", "\ufffd", strings.Repeat("a", 200))
	for _, x := range texts {
		b := newBench(t, 5000)
		for _, y := range texts {
			b.enough()
			o, p := b.text(x), b.part(b.text("a"+y+"a"), 1, len(y))
			o.Exec, o.Access = true, api.ReadOnly
			b.gives([]api.Obj{truth(x > y)}, "gt", o, p)
			b.gives([]api.Obj{truth(x >= y)}, "ge", o, p)
			b.gives([]api.Obj{truth(x < y)}, "lt", o, p)
			b.gives([]api.Obj{truth(x <= y)}, "le", o, p)
			b.gives([]api.Obj{truth(x == y)}, "eq", o, p)
			b.gives([]api.Obj{truth(x != y)}, "ne", o, p)
		}
	}
}

// same are objects, in rows of those that are the same.
func (b bench) same() [][]api.Obj {
	a, d := b.list(wholes(0, 4)...), b.dict(2)
	abc := b.text("abcabc")
	dressed := api.Obj{Kind: api.Int, N: 5, Exec: true, Access: api.NoAccess, Name: "x", Ref: 1, From: 2, Len: 3}
	return [][]api.Obj{
		{whole(5), part(5 * one), dressed},
		{whole(0), part(0)},
		{whole(1), part(one)},
		{part(1)},
		{part(one + 1)},
		{whole(api.MinInt)},
		{whole(api.MaxInt)},
		{part(api.MaxFix)},
		{whole(-32768), part(api.MinFix)},
		{whole(one)},
		{whole(api.MaxInt + 1)},
		{part(api.MaxFix + 1)},
		{part(one * one)},
		{no},
		{yes, {Kind: api.Bool, N: 1, Exec: true}},
		{{Kind: api.Bool, N: 2}},
		{null, {Exec: true, Access: api.ReadOnly}},
		{{N: 1}},
		{mark},
		{name("abc"), {Kind: api.Name, Name: "abc", Exec: true, N: 7}, b.part(abc, 0, 3), b.part(abc, 3, 3), b.text("abc"), b.with(b.text("abc"), api.ReadOnly)},
		{name("ab"), b.part(abc, 0, 2)},
		{name("ABC")},
		{name(""), b.text(""), b.part(abc, 4, 0)},
		{name("\xff"), b.text("\xff")},
		{name("5"), b.text("5")},
		{abc, b.text("abcabc"), {Kind: api.String, Exec: true, Ref: abc.Ref, Len: 6, N: 4, Name: "y"}},
		{{Kind: api.Op, Name: "abc"}, {Kind: api.Op, Name: "abc", Exec: true}},
		{{Kind: api.Op, Name: "ab"}},
		{{Kind: api.Save, N: 1}},
		{{Kind: api.Save, N: 2}},
		{a, {Kind: api.Array, Exec: true, Access: api.NoAccess, Ref: a.Ref, Len: 4}},
		{b.part(a, 0, 3)},
		{b.part(a, 1, 3)},
		{b.part(a, 0, 0)},
		{b.part(a, 4, 0)},
		{b.list(wholes(0, 4)...)},
		{{Kind: api.Array, N: 1, Ref: a.Ref, Len: 4}},
		{{Kind: api.Array, Name: "z", Ref: a.Ref, Len: 4}},
		{d, {Kind: api.Dict, Exec: true, Access: api.ReadOnly, Ref: d.Ref}},
		{b.with(b.dict(2), api.NoAccess)},
		{{Kind: api.Dict, N: 1, Ref: d.Ref}},
		{{Kind: -1}},
		{{Kind: 11, N: 5}},
		{{Kind: 11, N: 5, Ref: a.Ref}},
		{{Kind: 11, N: 5, From: 1}},
		{{Kind: 11, N: 5, Len: 1}},
	}
}

// P9.1, P9.2: each of them is the same as those of its row, and no others.
func TestSame(t *testing.T) {
	b := newBench(t, 1000)
	rows := b.same()
	for i, row := range rows {
		for j, others := range rows {
			for _, x := range row {
				for _, y := range others {
					b.enough()
					if same := coll.Same(b.s, x, y); same != (i == j) {
						t.Errorf("Same of %+v, %+v: %t", x, y, same)
					}
					b.gives([]api.Obj{truth(i == j)}, "eq", x, y)
					b.gives([]api.Obj{truth(i != j)}, "ne", x, y)
				}
			}
		}
	}
}

// P9.2: what is not valid is not the same as anything, itself included; access is no matter.
func TestSameOfWrong(t *testing.T) {
	b := newBench(t, 1000)
	rows := b.same()
	for _, wrong := range b.invalid() {
		if coll.Same(b.s, wrong, wrong) {
			t.Errorf("the same: %+v", wrong)
		}
		for _, row := range rows {
			for _, x := range row {
				if coll.Same(b.s, wrong, x) || coll.Same(b.s, x, wrong) {
					t.Errorf("the same: %+v, %+v", wrong, x)
				}
				if coll.Same(nil, x, x) || coll.Same(nil, x, wrong) {
					t.Errorf("the same without a store: %+v", x)
				}
			}
		}
	}
	for _, access := range []int{-1, api.ReadOnly, api.ExecuteOnly, api.NoAccess, 4} {
		if s := b.with(b.text("abc"), access); !coll.Same(b.s, s, s) || !coll.Same(b.s, s, name("abc")) || coll.Same(b.s, s, name("ab")) {
			t.Errorf("of access %d", access)
		}
	}
}
