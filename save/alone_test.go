package save_test

import (
	"slices"
	"testing"

	"mezzotint/api"
	"mezzotint/save"
	"mezzotint/store"
)

// P6.3: a nil *Saves, and those of a nil store.
func TestNil(t *testing.T) {
	s, w := fresh(t, 10)
	o := saves(t, w, 1)[0]
	a := got(t)(s.Array(1))
	var none *store.Store
	for _, v := range []*save.Saves{nil, save.New(nil), save.New(none), {}} {
		for range 2 {
			if x, e := v.Save(); x != null || e != api.ErrArg {
				t.Errorf("Save: %+v %d", x, e)
			}
		}
		for _, x := range []api.Obj{o, {Kind: api.Save}, {Kind: api.Save, N: -1}, null, a} {
			checkErrno(t, "Restore", v.Restore(x), api.ErrArg)
			checkErrno(t, "Restore", v.Restore(x, nil, []api.Obj{null, a}), api.ErrArg)
			checkAlive(t, v, []api.Obj{x}, 0)
		}
	}
}

// P6.1: other Saves of the same store have saves of their own; but of those that the store goes behind, none is
// alive any more, whoever lets it.
func TestSavesOfOneStore(t *testing.T) {
	s, v := fresh(t, 100)
	w := save.New(s)
	first := saves(t, v, 1)
	second := saves(t, w, 2)
	third := saves(t, v, 1)
	checkErrno(t, "Restore of another's", v.Restore(second[0]), api.InvalidRestore)
	checkErrno(t, "Restore of another's", w.Restore(first[0]), api.InvalidRestore)
	checkAlive(t, v, slices.Concat(first, third, second), 2)
	checkAlive(t, w, slices.Concat(second, first, third), 2)
	checkErrno(t, "Restore", w.Restore(second[1]), api.OK)
	checkAlive(t, w, second, 1)
	checkAlive(t, v, slices.Concat(first, third), 1)
	checkErrno(t, "Restore", v.Restore(third[0]), api.InvalidRestore)
	fourth := saves(t, v, api.MaxSaves-1)
	checkAlive(t, v, slices.Concat(first, fourth, third), api.MaxSaves)
	checkErrno(t, "Restore", v.Restore(first[0]), api.OK)
	checkAlive(t, v, slices.Concat(first, fourth), 0)
	checkAlive(t, w, second, 0)
}

// P6.1: marks of the store that are no saves do not count, and going back to one that is younger takes none away.
func TestMarksAreNoSaves(t *testing.T) {
	s, v := fresh(t, 100)
	eldest := s.Mark()
	list := saves(t, v, api.MaxSaves)
	younger := s.Mark()
	checkAlive(t, v, list, api.MaxSaves)
	for _, n := range []int{eldest, younger} {
		checkErrno(t, "Restore", v.Restore(api.Obj{Kind: api.Save, N: n}), api.InvalidRestore)
	}
	checkErrno(t, "Back", s.Back(younger), api.OK)
	checkAlive(t, v, list, api.MaxSaves)
	checkErrno(t, "Back", s.Back(eldest), api.OK)
	checkAlive(t, v, list, 0)
	checkErrno(t, "Restore", v.Restore(list[0]), api.InvalidRestore)
	checkAlive(t, v, saves(t, v, api.MaxSaves), api.MaxSaves)
}

// R4: what is held is not changed, spare room included, and not kept.
func TestMemory(t *testing.T) {
	s, v := fresh(t, 100)
	a := got(t)(s.Array(1))
	list := saves(t, v, 3)
	room := []api.Obj{a, whole(1), whole(99)}
	rooms := [][]api.Obj{room[:1], room[:2], {whole(98)}}
	checkErrno(t, "Restore", v.Restore(list[2], rooms[:2]...), api.OK)
	if !slices.Equal(room, []api.Obj{a, whole(1), whole(99)}) || rooms[2][0] != whole(98) || len(rooms[0]) != 1 || len(rooms[1]) != 2 {
		t.Errorf("changed: %+v", rooms)
	}
	room[0], room[1] = got(t)(s.Array(1)), null
	checkErrno(t, "Restore, held by the same list", v.Restore(list[1], rooms[:2]...), api.InvalidRestore)
	room[0] = null
	checkErrno(t, "Restore, held no more", v.Restore(list[1], rooms[:2]...), api.OK)
	checkErrno(t, "Restore", v.Restore(list[0]), api.OK)
}

// R5: the same calls, done again from the beginning, have the same answers.
func TestSameCallsSameAnswers(t *testing.T) {
	run := func() (list []api.Obj) {
		s, v := fresh(t, 100)
		for range 3 {
			some := saves(t, v, 3)
			got(t)(s.Array(1))
			checkErrno(t, "Restore", v.Restore(some[1]), api.OK)
			list = append(list, some...)
		}
		return list
	}
	list := run()
	for range 2 {
		if again := run(); !slices.Equal(again, list) {
			t.Errorf("%+v, then %+v", list, again)
		}
	}
}
