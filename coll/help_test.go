package coll_test

import (
	"slices"
	"sort"
	"strconv"
	"testing"

	"mezzotint/api"
	"mezzotint/coll"
	"mezzotint/store"
)

const one = 65536

var (
	null = api.Obj{}
	mark = api.Obj{Kind: api.Mark}
	yes  = api.Obj{Kind: api.Bool, N: 1}
	no   = api.Obj{Kind: api.Bool}
)

func whole(n int) api.Obj { return api.Obj{Kind: api.Int, N: n} }

// part answers the Real of so many One-th parts.
func part(n int) api.Obj { return api.Obj{Kind: api.Real, N: n} }

func name(text string) api.Obj { return api.Obj{Kind: api.Name, Name: text} }

func truth(holds bool) api.Obj {
	if holds {
		return yes
	}
	return no
}

func wholes(from, n int) (list []api.Obj) {
	for i := range n {
		list = append(list, whole(from+i))
	}
	return list
}

// operators are all of them, by how many operands they have.
var operators = [][]string{
	1: {"string", "array", "dict", "length", "maxlength", "aload"},
	2: {"get", "copy", "known", "undef", "eq", "ne", "gt", "ge", "lt", "le", "search", "anchorsearch"},
	3: {"put", "getinterval", "putinterval"},
}

// bench is a store that is worked on.
type bench struct {
	*testing.T
	s *store.Store
}

func newBench(t *testing.T, cells int) bench {
	t.Helper()
	s, e := store.New(cells)
	b := bench{t, s}
	b.fine(e)
	return b
}

func (b bench) fine(e api.Errno) {
	b.Helper()
	if e != api.OK {
		b.Fatalf("error %d", e)
	}
}

func (b bench) text(text string) api.Obj {
	b.Helper()
	o, e := b.s.Text([]byte(text))
	b.fine(e)
	return o
}

func (b bench) list(items ...api.Obj) api.Obj {
	b.Helper()
	o, e := b.s.List(items...)
	b.fine(e)
	return o
}

// dict answers a dictionary of keys and values, by turns.
func (b bench) dict(most int, pairs ...api.Obj) api.Obj {
	b.Helper()
	o, e := b.s.Dict(most)
	b.fine(e)
	for i := 0; i < len(pairs); i += 2 {
		b.fine(b.s.Set(o, pairs[i], pairs[i+1]))
	}
	return o
}

func (b bench) part(o api.Obj, from, n int) api.Obj {
	b.Helper()
	p, e := b.s.Part(o, from, n)
	b.fine(e)
	return p
}

// with answers o with that access: if it is a dictionary, all that tell of it have that then.
func (b bench) with(o api.Obj, access int) api.Obj {
	b.Helper()
	if o.Kind == api.Dict {
		b.fine(b.s.Lock(o, access))
		return o
	}
	o.Access = access
	return o
}

// gives asks whether the operator hands over just these, here and on a copy of the store.
func (b bench) gives(want []api.Obj, name string, args ...api.Obj) {
	b.Helper()
	for _, s := range []*store.Store{b.s.Copy(), b.s} {
		list, e := coll.Do(s, name, args...)
		if e != api.OK || !slices.Equal(list, want) {
			b.Errorf("%q of %+v: %+v, error %d, not %+v", name, args, list, e, want)
		}
	}
}

// refuses asks whether the operator has that error, hands over nothing, and has changed nothing.
func (b bench) refuses(want api.Errno, name string, args ...api.Obj) {
	b.Helper()
	before := look(b.s, args)
	list, e := coll.Do(b.s, name, args...)
	if e != want || len(list) != 0 {
		b.Errorf("%q of %+v: %+v, error %d, not %d", name, args, list, e, want)
	}
	if after := look(b.s, args); after != before {
		b.Errorf("%q of %+v: %s has become %s", name, args, before, after)
	}
}

// enough ends a test of very many questions that has failed: more of the same would tell no more.
func (b bench) enough() {
	b.Helper()
	if b.Failed() {
		b.FailNow()
	}
}

func (b bench) checkText(o api.Obj, want string) {
	b.Helper()
	if got, e := b.s.Bytes(o); e != api.OK || string(got) != want {
		b.Errorf("%+v: %q, error %d, not %q", o, got, e, want)
	}
}

func (b bench) checkItems(o api.Obj, want ...api.Obj) {
	b.Helper()
	if got, e := b.s.Items(o); e != api.OK || !slices.Equal(got, want) {
		b.Errorf("%+v: %+v, error %d, not %+v", o, got, e, want)
	}
}

// checkPairs asks whether a dictionary has just these keys and values, by turns, in their order.
func (b bench) checkPairs(d api.Obj, want ...api.Obj) {
	b.Helper()
	var got []api.Obj
	for i := 0; ; i++ {
		k, x, ok := b.s.Pair(d, i)
		if !ok {
			break
		}
		got = append(got, k, x)
	}
	if !slices.Equal(got, want) {
		b.Errorf("%+v: %+v, not %+v", d, got, want)
	}
}

// look answers as a text all that the store tells of these objects and of all that they have, each as the whole
// thing that it is a part of.
func look(s *store.Store, list []api.Obj) string {
	text := strconv.Itoa(s.Free())
	seen := map[int]bool{}
	for len(list) > 0 {
		o := list[0]
		list = list[1:]
		text += " " + plain(o)
		if !s.Valid(o) || o.Ref == 0 || seen[o.Ref] {
			continue
		}
		seen[o.Ref] = true
		o.From = 0
		o.Len = longest(s, o)
		bytes, _ := s.Bytes(o)
		items, _ := s.Items(o)
		_, most, _ := s.Size(o)
		for i := 0; ; i++ {
			k, x, ok := s.Pair(o, i)
			if !ok {
				break
			}
			items = append(items, k, x)
		}
		text += " " + strconv.Quote(string(bytes)) + "(" + strconv.Itoa(most) + " " + strconv.Itoa(s.Access(o))
		for _, x := range items {
			text += " " + plain(x)
		}
		text += ")"
		list = append(slices.Clone(list), items...)
	}
	return text
}

// longest answers how long a part of o's whole thing may be.
func longest(s *store.Store, o api.Obj) int {
	return sort.Search(api.MaxString+1, func(n int) bool {
		o.Len = n + 1
		return !s.Valid(o)
	})
}

func plain(o api.Obj) string {
	text := "["
	for _, n := range []int{o.Kind, o.Access, o.N, o.Ref, o.From, o.Len} {
		text += strconv.Itoa(n) + ","
	}
	return text + strconv.FormatBool(o.Exec) + "," + strconv.Quote(o.Name) + "]"
}
