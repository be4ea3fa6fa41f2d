package store

import (
	"slices"
	"sort"

	"mezzotint/api"
)

// mark is a state that can be gone back to.
type mark struct {
	number  int
	made    int // how many things there ever had been: theirs are the Refs up to it
	free    int
	changes int // how many changes were noted
}

// The changes that going back undoes. Things that are made are none of them: they are told by their Refs.
const (
	itemPut      = iota // the item at place was old's value
	valueSet            // the value of the pair at place was old's value
	pairAdded           // the last pair was not there
	pairDropped         // at place there was the pair old
	accessLocked        // place was the access
)

// change is what has to be known of a change to undo it.
type change struct {
	kind, ref, place int
	old              pair
}

// Mark answers a number for the state that is now.
func (s *Store) Mark() int {
	if s == nil {
		return 0
	}
	s.marked++
	s.marks = append(s.marks, mark{number: s.marked, made: s.made, free: s.free, changes: len(s.changes)})
	return s.marked
}

// Back makes the state that of the mark, but for the bytes of strings.
func (s *Store) Back(number int) api.Errno {
	at, ok := s.markAt(number)
	if !ok {
		return api.ErrArg
	}
	m := s.marks[at]
	for i := len(s.changes) - 1; i >= m.changes; i-- {
		s.undo(s.changes[i])
	}
	s.changes = slices.Delete(s.changes, m.changes, len(s.changes))
	s.things = slices.Delete(s.things, s.upTo(m.made), len(s.things))
	s.free = m.free
	s.marks = s.marks[:at+1]
	return api.OK
}

// Elder tells whether what o tells of was there at the mark.
func (s *Store) Elder(o api.Obj, number int) bool {
	at, ok := s.markAt(number)
	if !ok || !s.Valid(o) {
		return false
	}
	switch o.Kind {
	case api.String, api.Array, api.Dict:
		return o.Ref <= s.marks[at].made
	}
	return true
}

// markAt answers where the mark of that number is, if it is one.
func (s *Store) markAt(number int) (at int, ok bool) {
	if s == nil {
		return 0, false
	}
	at = sort.Search(len(s.marks), func(i int) bool { return s.marks[i].number >= number })
	if at == len(s.marks) || s.marks[at].number != number {
		return 0, false
	}
	return at, true
}

// last answers the mark that a change comes behind: without any, one of number 0 that is elder than all things.
func (s *Store) last() mark {
	if len(s.marks) == 0 {
		return mark{}
	}
	return s.marks[len(s.marks)-1]
}

// note keeps a change of t, if t was there at the last mark: one that was made since is not gone back to.
func (s *Store) note(t *thing, c change) {
	if t.ref > s.last().made {
		return
	}
	c.ref = t.ref
	s.changes = append(s.changes, c)
}

// fill lets x come to a slot of t, which c tells of. What was there is noted but once since a mark, as what
// comes in between is not gone back to: so a program that fills the same slots for long needs no more room.
func (s *Store) fill(t *thing, at *slot, x api.Obj, c change) {
	now := s.last().number
	if at.since != now {
		c.old.value = *at
		s.note(t, c)
		at.since = now
	}
	at.x = x
}

// undo undoes a change, of which all later ones are undone already.
func (s *Store) undo(c change) {
	t := s.byRef(c.ref)
	switch c.kind {
	case itemPut:
		t.items[c.place] = c.old.value
	case valueSet:
		t.pairs[c.place].value = c.old.value
	case pairAdded:
		end := len(t.pairs)
		t.pairs = slices.Delete(t.pairs, end-1, end)
	case pairDropped:
		t.pairs = slices.Insert(t.pairs, c.place, c.old)
	case accessLocked:
		t.access = c.place
	}
}
