package save_test

import (
	"fmt"
	"math/rand"
	"slices"
	"testing"

	"mezzotint/api"
	"mezzotint/save"
	"mezzotint/store"
)

// state is what the store tells of arrays and dictionaries when a save comes to be.
type state struct {
	save api.Obj
	free int
	made int // how many of the objects were there
	told []string
}

// model does what the saves do by keeping the whole of what is told at each save.
type model struct {
	s       *store.Store
	v       *save.Saves
	r       *rand.Rand
	objects []api.Obj
	alive   []state
	dead    []api.Obj // saves
	gone    []api.Obj // objects
}

// tell tells all of an array or a dictionary; nothing of a string, whose bytes are not gone back to.
func (m *model) tell(o api.Obj) string {
	switch o.Kind {
	case api.Array:
		list, e := m.s.Items(o)
		return fmt.Sprint(list, e)
	case api.Dict:
		n, most, e := m.s.Size(o)
		text := fmt.Sprint(n, most, e, m.s.Access(o))
		for i := range n {
			k, x, ok := m.s.Pair(o, i)
			text += fmt.Sprint(k, x, ok)
		}
		return text
	}
	return fmt.Sprint(m.s.Valid(o))
}

func (m *model) tellAll() (told []string) {
	for _, o := range m.objects {
		told = append(told, m.tell(o))
	}
	return told
}

// any answers one of a list, or a null.
func (m *model) any(list []api.Obj) api.Obj {
	if len(list) == 0 {
		return null
	}
	return list[m.r.Intn(len(list))]
}

func (m *model) made(o api.Obj, e api.Errno) {
	if e == api.OK {
		m.objects = append(m.objects, o)
	}
}

// change does something to the store: what is refused changes nothing.
func (m *model) change() {
	o, x, n := m.any(m.objects), m.any(m.objects), m.r.Intn(3)
	switch m.r.Intn(8) {
	case 0:
		m.made(m.s.Array(n))
	case 1:
		m.made(m.s.Dict(n))
	case 2:
		m.made(m.s.Text([]byte("abc")[:n]))
	case 3, 4:
		m.s.Put(o, n, x)
	case 5:
		m.s.Set(o, whole(n), x)
	case 6:
		m.s.Drop(o, whole(n))
	case 7:
		m.s.Write(o, 0, []byte{byte('a' + n)})
		m.s.Lock(o, n)
	}
}

func (m *model) save(t *testing.T) {
	o, e := m.v.Save()
	if len(m.alive) == api.MaxSaves {
		if o != null || e != api.LimitCheck {
			t.Fatalf("one too many: %+v %d", o, e)
		}
		return
	}
	if e != api.OK || o.Kind != api.Save {
		t.Fatalf("Save: %+v %d", o, e)
	}
	m.alive = append(m.alive, state{save: o, free: m.s.Free(), made: len(m.objects), told: m.tellAll()})
}

// held answers some lists of objects, and the greatest place of one of them (-1 of none); that of one that is
// gone is beyond all.
func (m *model) held() (lists [][]api.Obj, greatest int) {
	greatest = -1
	for range m.r.Intn(4) {
		var list []api.Obj
		for range m.r.Intn(3) {
			place := len(m.objects)
			o := whole(place)
			switch {
			case m.r.Intn(8) == 0 && len(m.gone) > 0:
				o = m.any(m.gone)
			case len(m.objects) > 0:
				place = m.r.Intn(1 + m.r.Intn(len(m.objects)))
				o = m.objects[place]
			default:
				place = -1
			}
			list = append(list, o)
			greatest = max(greatest, place)
		}
		lists = append(lists, list)
	}
	return lists, greatest
}

func (m *model) restore(t *testing.T) {
	if len(m.dead) > 0 && m.r.Intn(3) == 0 {
		checkErrno(t, "Restore of a dead one", m.v.Restore(m.any(m.dead)), api.InvalidRestore)
		return
	}
	if len(m.alive) == 0 {
		return
	}
	at := m.r.Intn(len(m.alive))
	was := m.alive[at]
	held, greatest := m.held()
	var strings []string
	for _, o := range m.objects[:was.made] {
		b, e := m.s.Bytes(o)
		strings = append(strings, fmt.Sprint(b, e))
	}
	e := m.v.Restore(was.save, held...)
	if greatest >= was.made {
		checkErrno(t, "Restore, held", e, api.InvalidRestore)
		return
	}
	checkErrno(t, "Restore", e, api.OK)
	m.gone = append(m.gone, m.objects[was.made:]...)
	m.objects = m.objects[:was.made]
	for _, one := range m.alive[at:] {
		m.dead = append(m.dead, one.save)
	}
	m.alive = m.alive[:at]
	checkFree(t, m.s, was.free)
	if told := m.tellAll(); !slices.Equal(told, was.told) {
		t.Fatalf("restored: %q, not %q", told, was.told)
	}
	for i, o := range m.objects {
		if b, e := m.s.Bytes(o); fmt.Sprint(b, e) != strings[i] {
			t.Fatalf("bytes of %+v: %v %d, not %s", o, b, e, strings[i])
		}
	}
}

// check holds what is alive, and what is there, against the model.
func (m *model) check(t *testing.T) {
	var list []api.Obj
	for _, one := range m.alive {
		list = append(list, one.save)
	}
	checkAlive(t, m.v, append(list, m.dead...), len(list))
	for _, o := range m.objects {
		if !m.s.Valid(o) {
			t.Fatalf("%+v is gone", o)
		}
	}
	for _, o := range m.gone {
		if m.s.Valid(o) {
			t.Fatalf("%+v is not gone", o)
		}
	}
}

// P6.1, P6.2: many random calls.
func TestAgainstModel(t *testing.T) {
	for seed := range 60 {
		s, v := fresh(t, 200)
		m := &model{s: s, v: v, r: rand.New(rand.NewSource(int64(seed)))}
		for range 300 {
			for range m.r.Intn(6) {
				m.change()
			}
			if m.r.Intn(3) > 0 {
				m.save(t)
			} else {
				m.restore(t)
			}
			m.check(t)
		}
		if t.Failed() {
			t.Fatalf("seed %d", seed)
		}
	}
}
