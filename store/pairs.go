package store

import (
	"slices"

	"mezzotint/api"
)

// pair is what a dictionary has for a key, which is as Key answers it.
type pair struct {
	key   api.Obj
	value slot
}

// Key answers what stands for k as a key.
func (s *Store) Key(k api.Obj) (api.Obj, api.Errno) {
	if !s.Valid(k) {
		return api.Obj{}, api.ErrArg
	}
	switch {
	case k.Kind == api.Null:
		return api.Obj{}, api.TypeCheck
	case k.Kind == api.String:
		return s.nameOf(k)
	case k.Kind == api.Real && k.N%api.One == 0:
		return api.Obj{Kind: api.Int, N: k.N / api.One}, api.OK
	}
	k.Exec, k.Access = false, api.Unlimited
	return k, api.OK
}

func (s *Store) nameOf(k api.Obj) (api.Obj, api.Errno) {
	if k.Len > api.MaxName {
		return api.Obj{}, api.LimitCheck
	}
	b, e := s.Bytes(k)
	if e != api.OK {
		return api.Obj{}, e
	}
	return api.Obj{Kind: api.Name, Name: string(b)}, api.OK
}

// entry answers the dictionary that d tells of, the Key of k, and where its pair is (-1 if there is none).
func (s *Store) entry(d, k api.Obj) (t *thing, key api.Obj, i int, e api.Errno) {
	t = s.told(d, api.Dict)
	if t == nil {
		return nil, api.Obj{}, 0, api.ErrArg
	}
	key, e = s.Key(k)
	if e != api.OK {
		return nil, api.Obj{}, 0, e
	}
	// Keys have neither Exec nor Access, so they can be held against one another as they are.
	i = first(len(t.pairs), func(at int) bool { return t.pairs[at].key == key })
	return t, key, i, api.OK
}

// first answers the first of n places that is the one that is sought, or -1.
func first(n int, sought func(i int) bool) int {
	for i := range n {
		if sought(i) {
			return i
		}
	}
	return -1
}

// Find answers what d has for k.
func (s *Store) Find(d, k api.Obj) (api.Obj, bool) {
	t, _, i, e := s.entry(d, k)
	if e != api.OK || i < 0 {
		return api.Obj{}, false
	}
	return t.pairs[i].value.x, true
}

// Set makes x what d has for k.
func (s *Store) Set(d, k, x api.Obj) api.Errno {
	if !s.Valid(x) {
		return api.ErrArg
	}
	t, key, i, e := s.entry(d, k)
	if e != api.OK {
		return e
	}
	if i >= 0 {
		s.fill(t, &t.pairs[i].value, x, change{kind: valueSet, place: i})
		return api.OK
	}
	if len(t.pairs) == t.most {
		return api.DictFull
	}
	s.note(t, change{kind: pairAdded})
	t.pairs = append(t.pairs, pair{key: key, value: slot{x: x, since: s.last().number}})
	return api.OK
}

// Drop takes d's pair of k away.
func (s *Store) Drop(d, k api.Obj) api.Errno {
	t, _, i, e := s.entry(d, k)
	if e != api.OK {
		return e
	}
	if i < 0 {
		return api.Undefined
	}
	s.note(t, change{kind: pairDropped, place: i, old: t.pairs[i]})
	t.pairs = slices.Delete(t.pairs, i, i+1)
	return api.OK
}

// Size answers how many pairs d has, and may have.
func (s *Store) Size(d api.Obj) (n, most int, e api.Errno) {
	t := s.told(d, api.Dict)
	if t == nil {
		return 0, 0, api.ErrArg
	}
	return len(t.pairs), t.most, api.OK
}

// Pair answers d's i-th pair.
func (s *Store) Pair(d api.Obj, i int) (k, x api.Obj, ok bool) {
	t := s.told(d, api.Dict)
	if t == nil || !lies(i, 1, len(t.pairs)) {
		return api.Obj{}, api.Obj{}, false
	}
	p := t.pairs[i]
	return p.key, p.value.x, true
}

// Access answers the dictionary's access.
func (s *Store) Access(d api.Obj) int {
	t := s.told(d, api.Dict)
	if t == nil {
		return 0
	}
	return t.access
}

// Lock gives the dictionary that access, be it more or less than it was.
func (s *Store) Lock(d api.Obj, access int) api.Errno {
	t := s.told(d, api.Dict)
	if t == nil || access < api.Unlimited || access > api.NoAccess {
		return api.ErrArg
	}
	if access != t.access {
		s.note(t, change{kind: accessLocked, place: t.access})
		t.access = access
	}
	return api.OK
}
