package exec

import (
	"mezzotint/api"
	"mezzotint/coll"
)

// lowest is how many dictionaries always stay: systemdict and userdict.
const lowest = 2

// ofDicts does an operator on the dictionaries' stack, whose operands are taken off already: Undefined, if there is
// none of that name, as of an Op that nobody does.
func (m *Machine) ofDicts(name string, args []api.Obj) ([]api.Obj, api.Errno) {
	switch name {
	case "begin":
		return nil, m.begin(args[0])
	case "end":
		return nil, m.end()
	case "def":
		d, _ := m.dicts.Top(0)
		return coll.Do(m.store, "put", d, args[0], args[1])
	case "load":
		return m.load(args[0])
	case "store":
		return m.keep(args[0], args[1])
	case "where":
		return m.where(args[0])
	case "currentdict":
		return one(m.dicts.Top(0))
	case "countdictstack":
		return one(whole(m.dicts.Len()), api.OK)
	case "cleardictstack":
		_, e := m.dicts.Take(m.dicts.Len() - lowest)
		return nil, e
	}
	return nil, api.Undefined
}

func (m *Machine) begin(d api.Obj) api.Errno {
	if e := m.check("rcheck", d); e != api.OK {
		return e
	}
	return m.dicts.Push(d)
}

func (m *Machine) end() api.Errno {
	if m.dicts.Len() == lowest {
		return api.DictStackUnderflow
	}
	_, e := m.dicts.Pop()
	return e
}

// load answers what a key stands for.
func (m *Machine) load(k api.Obj) ([]api.Obj, api.Errno) {
	if _, e := m.store.Key(k); e != api.OK {
		return nil, e
	}
	_, x, ok := m.find(k)
	if !ok {
		return nil, api.Undefined
	}
	return one(x, api.OK)
}

// keep lets a key stand for x where it stands for something already, else in the topmost dictionary.
func (m *Machine) keep(k, x api.Obj) ([]api.Obj, api.Errno) {
	d, _, ok := m.find(k)
	if !ok {
		d, _ = m.dicts.Top(0)
	}
	return coll.Do(m.store, "put", d, k, x)
}

// where answers which dictionary has the key.
func (m *Machine) where(k api.Obj) ([]api.Obj, api.Errno) {
	if _, e := m.store.Key(k); e != api.OK {
		return nil, e
	}
	d, _, ok := m.find(k)
	if !ok {
		return one(truth(false), api.OK)
	}
	return []api.Obj{d, truth(true)}, api.OK
}

// bind lets the operators themselves stand in a procedure, and in those within it, for names that stand for them. It
// goes level by level, and to each procedure but once, as they may be within themselves.
func (m *Machine) bind(proc api.Obj) {
	seen := map[api.Obj]struct{}{}
	level := []api.Obj{proc}
	for range api.MaxNest {
		var within []api.Obj
		for _, p := range level {
			if _, ok := seen[p]; ok || p.Access != api.Unlimited {
				continue
			}
			seen[p] = struct{}{}
			within = append(within, m.bindItems(p)...)
		}
		level = within
	}
}

// bindItems binds a procedure's own names, and answers the procedures that are within it.
func (m *Machine) bindItems(proc api.Obj) []api.Obj {
	var within []api.Obj
	// The only error of Items is that of an Array that is not valid, which has none.
	items, _ := m.store.Items(proc)
	for i, o := range items {
		switch {
		case !o.Exec:
		case o.Kind == api.Array:
			within = append(within, o)
		case o.Kind == api.Name:
			if _, x, ok := m.find(o); ok && x.Kind == api.Op {
				m.store.Put(proc, i, x)
			}
		}
	}
	return within
}
