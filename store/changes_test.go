package store

import (
	"testing"

	"mezzotint/api"
)

// P5.4: no more is kept of changes than going back needs: nothing without a mark, nothing of what was made
// since, and of a slot that is filled for long what was there at first.
func TestChangesThatAreKept(t *testing.T) {
	s, _ := New(100)
	a, _ := s.Array(2)
	d, _ := s.Dict(2)
	k, l := api.Obj{Kind: api.Name, Name: "k"}, api.Obj{Kind: api.Name, Name: "l"}
	work := func(a, d api.Obj) {
		for i := range 1000 {
			x := api.Obj{Kind: api.Int, N: i}
			s.Put(a, i%2, x)
			s.Set(d, k, x)
			s.Set(d, l, x)
			s.Lock(d, api.ReadOnly)
		}
	}
	check := func(what string, want int) {
		t.Helper()
		if len(s.changes) != want {
			t.Errorf("%s: %d changes are kept, not %d", what, len(s.changes), want)
		}
	}
	s.Set(d, k, api.Obj{})
	work(a, a)
	check("without a mark", 0)
	m := s.Mark()
	b, _ := s.Array(2)
	c, _ := s.Dict(2)
	work(b, c)
	check("of what was made since", 0)
	work(a, d)
	check("two items, a value, a new pair and the access", 5)
	s.Mark()
	work(b, d)
	check("behind another mark: two items and two values", 9)
	s.Back(m)
	check("behind a Back", 0)
	if len(s.things) != 2 || len(s.marks) != 1 {
		t.Errorf("%d things and %d marks are kept", len(s.things), len(s.marks))
	}
	for _, gone := range s.things[2:cap(s.things)] {
		if gone.items != nil || gone.pairs != nil {
			t.Error("what is gone is held on to")
		}
	}
}
