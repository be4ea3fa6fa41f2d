package exec

import (
	"mezzotint/api"
	"mezzotint/arith"
	"mezzotint/coll"
	"mezzotint/conv"
)

// compute does an operator that does nothing but hand over something for its operands.
func (m *Machine) compute(name string) api.Errno {
	if n, ok := m.elder(name); ok {
		return m.replace(n, func(args []api.Obj) ([]api.Obj, api.Errno) { return m.askElder(name, args) })
	}
	switch name {
	case "clear":
		m.operands.Reset(nil)
		return api.OK
	case "copy":
		return m.replace(1, m.copies)
	case "cleartomark":
		return m.replaceMarked(dropped)
	case "]":
		return m.replaceMarked(m.list)
	case ">>":
		return m.replaceMarked(m.dict)
	}
	return m.replace(len(takes(name)), func(args []api.Obj) ([]api.Obj, api.Errno) { return m.own(name, args) })
}

// replace takes n operands off, and pushes what comes of them. With an error they are put back.
func (m *Machine) replace(n int, work func(args []api.Obj) ([]api.Obj, api.Errno)) api.Errno {
	args, e := m.operands.Take(n)
	if e != api.OK {
		return e
	}
	list, e := work(args)
	if e == api.OK {
		e = m.operands.Push(list...)
	}
	if e != api.OK {
		m.operands.Push(args...)
	}
	return e
}

// replaceMarked does so with what is above the topmost Mark; the Mark is taken off, too.
func (m *Machine) replaceMarked(work func(args []api.Obj) ([]api.Obj, api.Errno)) api.Errno {
	n, e := m.operands.ToMark()
	if e != api.OK {
		return e
	}
	return m.replace(n+1, func(args []api.Obj) ([]api.Obj, api.Errno) { return work(args[1:]) })
}

// dropped hands over nothing for the operands.
func dropped([]api.Obj) ([]api.Obj, api.Errno) {
	return nil, api.OK
}

// top answers the n top operands, which stay.
func (m *Machine) top(n int) ([]api.Obj, api.Errno) {
	switch {
	case n < 0:
		return nil, api.RangeCheck
	case n > m.operands.Len():
		return nil, api.StackUnderflow
	}
	list := make([]api.Obj, n)
	for i := range n {
		list[n-1-i], _ = m.operands.Top(i)
	}
	return list, api.OK
}

// elder answers how many operands an operator of an elder layer has; false, if it is none. Copy is none if there is an
// Int on top, as it is of operands then.
func (m *Machine) elder(name string) (n int, ok bool) {
	if name == "copy" && m.operands.Need(api.Int) == api.OK {
		return 0, false
	}
	for _, known := range []func(string) (int, bool){arith.Known, coll.Known, conv.Known} {
		if n, ok := known(name); ok {
			return n, true
		}
	}
	return 0, false
}

// askElder lets the elder layer do the operator. Where two know it, it is arith's unless it is asked of two strings.
func (m *Machine) askElder(name string, args []api.Obj) ([]api.Obj, api.Errno) {
	_, ofNumbers := arith.Known(name)
	_, ofThings := coll.Known(name)
	switch {
	case ofNumbers && !(ofThings && args[0].Kind == api.String && args[1].Kind == api.String):
		return arith.Do(name, args...)
	case ofThings:
		return coll.Do(m.store, name, args...)
	}
	return conv.Do(m.store, name, args...)
}

// own does an operator of the machine's own, whose operands are taken off already.
func (m *Machine) own(name string, args []api.Obj) ([]api.Obj, api.Errno) {
	switch name {
	case "pop":
		return nil, api.OK
	case "exch":
		return []api.Obj{args[1], args[0]}, api.OK
	case "dup":
		return []api.Obj{args[0], args[0]}, api.OK
	case "index":
		return one(m.operands.Top(args[0].N))
	case "roll":
		return nil, m.operands.Roll(args[0].N, args[1].N)
	case "count":
		return one(whole(m.operands.Len()), api.OK)
	case "mark", "[", "<<":
		return one(api.Obj{Kind: api.Mark}, api.OK)
	case "counttomark":
		n, e := m.operands.ToMark()
		return one(whole(n), e)
	case "countexecstack":
		return one(whole(len(m.things)), api.OK)
	case "astore":
		return m.fill(args[0])
	case "bind":
		m.bind(args[0])
		return args, api.OK
	case "save":
		return m.save()
	case "restore":
		return nil, m.saves.Restore(args[0], m.operands.All(), m.dicts.All(), m.held())
	}
	return m.ofDicts(name, args)
}

// one answers a list of one object, unless there is an error.
func one(o api.Obj, e api.Errno) ([]api.Obj, api.Errno) {
	if e != api.OK {
		return nil, e
	}
	return []api.Obj{o}, api.OK
}

// copies answers as many operands once more as the first one tells.
func (m *Machine) copies(args []api.Obj) ([]api.Obj, api.Errno) {
	return m.top(args[0].N)
}

// list makes an array of the operands.
func (m *Machine) list(args []api.Obj) ([]api.Obj, api.Errno) {
	return one(m.store.List(args...))
}

// dict makes a dictionary of the operands, which are keys and values in turn. The keys are asked ahead, so that one
// that is none costs no cells.
func (m *Machine) dict(args []api.Obj) ([]api.Obj, api.Errno) {
	if len(args)%2 != 0 {
		return nil, api.RangeCheck
	}
	for k := range pairs(args) {
		if _, e := m.store.Key(k); e != api.OK {
			return nil, e
		}
	}
	d, e := m.store.Dict(len(args) / 2)
	if e != api.OK {
		return nil, e
	}
	for k, x := range pairs(args) {
		if e := m.store.Set(d, k, x); e != api.OK {
			return nil, e
		}
	}
	return one(d, api.OK)
}

// fill puts as many operands into an array as that has items.
func (m *Machine) fill(o api.Obj) ([]api.Obj, api.Errno) {
	if e := m.check("wcheck", o); e != api.OK {
		return nil, e
	}
	list, e := m.top(o.Len)
	if e != api.OK {
		return nil, e
	}
	for i, x := range list {
		if e := m.store.Put(o, i, x); e != api.OK {
			return nil, e
		}
	}
	m.operands.Take(o.Len)
	return one(o, api.OK)
}

// save saves the store's state. Whether there is room to tell of the save is asked ahead, as one that nobody knows of
// would stay alive.
func (m *Machine) save() ([]api.Obj, api.Errno) {
	if m.saves.Depth() < api.MaxSaves && m.operands.Len() == m.limits.Operands {
		return nil, api.StackOverflow
	}
	return one(m.saves.Save())
}

// held answers the objects that what is being done needs.
func (m *Machine) held() []api.Obj {
	var list []api.Obj
	for _, t := range m.things {
		list = append(list, t.proc, t.goes)
	}
	return list
}
