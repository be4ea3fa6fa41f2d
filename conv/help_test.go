package conv_test

import (
	"slices"
	"strconv"
	"testing"

	"mezzotint/api"
	"mezzotint/conv"
	"mezzotint/store"
)

const one = 65536

var (
	null = api.Obj{}
	mark = api.Obj{Kind: api.Mark}
	yes  = api.Obj{Kind: api.Bool, N: 1}
	no   = api.Obj{Kind: api.Bool}
	op   = api.Obj{Kind: api.Op, Name: "add"}
	kept = api.Obj{Kind: api.Save, N: 7}
)

func whole(n int) api.Obj { return api.Obj{Kind: api.Int, N: n} }

// part answers the Real of so many One-th parts.
func part(n int) api.Obj { return api.Obj{Kind: api.Real, N: n} }

func name(text string) api.Obj { return api.Obj{Kind: api.Name, Name: text} }

func run(o api.Obj) api.Obj {
	o.Exec = true
	return o
}

func truth(holds bool) api.Obj {
	if holds {
		return yes
	}
	return no
}

// operators are all of them, by how many operands they have.
var operators = [][]string{
	1: {"type", "cvx", "cvlit", "xcheck", "cvi", "cvr", "cvn", "readonly", "executeonly", "noaccess", "rcheck", "wcheck"},
	2: {"cvs"},
	3: {"cvrs"},
}

// bench is a store that is worked on, and what was made in it.
type bench struct {
	*testing.T
	s    *store.Store
	made []api.Obj
}

func newBench(t *testing.T) *bench {
	t.Helper()
	s, e := store.New(api.MaxCells)
	b := &bench{T: t, s: s}
	b.fine(e)
	return b
}

func (b *bench) fine(e api.Errno) {
	b.Helper()
	if e != api.OK {
		b.Fatalf("error %d", e)
	}
}

func (b *bench) take(o api.Obj, e api.Errno) api.Obj {
	b.Helper()
	b.fine(e)
	b.made = append(b.made, o)
	return o
}

func (b *bench) text(text string) api.Obj {
	b.Helper()
	return b.take(b.s.Text([]byte(text)))
}

func (b *bench) list(items ...api.Obj) api.Obj {
	b.Helper()
	return b.take(b.s.List(items...))
}

func (b *bench) dict(most int) api.Obj {
	b.Helper()
	return b.take(b.s.Dict(most))
}

func (b *bench) part(o api.Obj, from, n int) api.Obj {
	b.Helper()
	p, e := b.s.Part(o, from, n)
	b.fine(e)
	return p
}

// with answers o with that access: if it is a dictionary, all that tell of it have that then.
func (b *bench) with(o api.Obj, access int) api.Obj {
	b.Helper()
	if o.Kind == api.Dict {
		b.fine(b.s.Lock(o, access))
		return o
	}
	o.Access = access
	return o
}

// state answers as a text all that the store tells of what was made in it.
func (b *bench) state(s *store.Store) string {
	text := strconv.Itoa(s.Free())
	for _, o := range b.made {
		bytes, _ := s.Bytes(o)
		items, _ := s.Items(o)
		n, most, _ := s.Size(o)
		text += " " + strconv.Quote(string(bytes))
		for _, x := range items {
			text += "," + plain(x)
		}
		for _, m := range []int{n, most, s.Access(o)} {
			text += "," + strconv.Itoa(m)
		}
	}
	return text
}

func plain(o api.Obj) string {
	text := "["
	for _, n := range []int{o.Kind, o.Access, o.N, o.Ref, o.From, o.Len} {
		text += strconv.Itoa(n) + ","
	}
	return text + strconv.FormatBool(o.Exec) + "," + strconv.Quote(o.Name) + "]"
}

// gives asks whether the operator hands over just this, on a copy of the store and here.
func (b *bench) gives(want api.Obj, name string, args ...api.Obj) {
	b.Helper()
	for _, s := range []*store.Store{b.s.Copy(), b.s} {
		list, e := conv.Do(s, name, args...)
		if e != api.OK || !slices.Equal(list, []api.Obj{want}) {
			b.Errorf("%q of %+v: %+v, error %d, not %+v", name, args, list, e, want)
		}
	}
}

// tells asks likewise, and whether nothing has changed.
func (b *bench) tells(want api.Obj, name string, args ...api.Obj) {
	b.Helper()
	before := b.state(b.s)
	b.gives(want, name, args...)
	if after := b.state(b.s); after != before {
		b.Errorf("%q of %+v: %s has become %s", name, args, before, after)
	}
}

// refuses asks whether the operator has that error, hands over nothing, and has changed nothing.
func (b *bench) refuses(want api.Errno, name string, args ...api.Obj) {
	b.Helper()
	before := b.state(b.s)
	list, e := conv.Do(b.s, name, args...)
	if e != want || list != nil {
		b.Errorf("%q of %+v: %+v, error %d, not %d", name, args, list, e, want)
	}
	if after := b.state(b.s); after != before {
		b.Errorf("%q of %+v: %s has become %s", name, args, before, after)
	}
}

// enough ends a test of very many questions that has failed: more of the same would tell no more.
func (b *bench) enough() {
	b.Helper()
	if b.Failed() {
		b.FailNow()
	}
}

func (b *bench) checkText(o api.Obj, want string) {
	b.Helper()
	if got, e := b.s.Bytes(o); e != api.OK || string(got) != want {
		b.Errorf("%+v: %q, error %d, not %q", o, got, e, want)
	}
}
