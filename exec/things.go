package exec

import (
	"mezzotint/api"
	"mezzotint/arith"
)

// The kinds of things that are being done; the loops stand last.
const (
	aProgram = iota
	aProcedure
	aStopped
	aFor
	aRepeat
	aLoop
	aForall
)

// thing is something that is being done.
type thing struct {
	kind  int
	text  []byte  // of a program
	proc  api.Obj // the procedure, or what a loop begins in each turn
	at    int     // which byte, item or pair is the next one; of repeat how many turns are left
	goes  api.Obj // what forall goes through
	count counted // of for
}

// counted is what for counts: spent, if there can be no number more.
type counted struct {
	number, step, limit api.Obj
	spent               bool
}

// put puts a thing on top of what is being done.
func (m *Machine) put(t thing) fault {
	if m.isFull() {
		return fault{api.ExecStackOverflow, "exec"}
	}
	m.things = append(m.things, t)
	return fault{}
}

// isFull tells whether there can't be a thing more to do.
func (m *Machine) isFull() bool {
	return len(m.things) >= m.limits.Execs
}

// leave lets only the n lowest things be done any more.
func (m *Machine) leave(n int) {
	clear(m.things[n:])
	m.things = m.things[:n]
}

// off lets the topmost thing be over.
func (m *Machine) off() {
	m.leave(len(m.things) - 1)
}

// turn does a step of the topmost thing.
func (m *Machine) turn() fault {
	t := &m.things[len(m.things)-1]
	switch t.kind {
	case aProgram:
		return m.token(t)
	case aProcedure:
		return m.item(t)
	case aStopped:
		m.off()
		return m.push(truth(false), "stopped")
	}
	return m.again(t)
}

// item does the next item of a procedure, which is off ahead of its last one: so one that does itself at its end
// needs no room for that. One that is empty is off, and no more.
func (m *Machine) item(t *thing) fault {
	proc, at := t.proc, t.at
	t.at++
	if t.at >= proc.Len {
		m.off()
	}
	if proc.Len == 0 {
		return fault{}
	}
	o, e := m.store.At(proc, at)
	if e != api.OK {
		return fault{e, "exec"}
	}
	if o.Kind == api.Array {
		return m.push(o, "exec")
	}
	return m.do(o, "exec")
}

// again does a turn of a loop, or lets it be over, if there is none left.
func (m *Machine) again(t *thing) fault {
	kind, proc := t.kind, t.proc
	list, left, e := m.next(t)
	if e == api.OK && !left {
		m.off()
		return fault{}
	}
	if e == api.OK {
		e = m.operands.Push(list...)
	}
	if e != api.OK {
		return fault{e, loopName(kind)}
	}
	f := m.put(thing{kind: aProcedure, proc: proc})
	if f.e != api.OK {
		// There are as many, as they have just been pushed.
		m.operands.Take(len(list))
	}
	return f
}

// next answers what the loop's next turn pushes; left is false, if there is none.
func (m *Machine) next(t *thing) (list []api.Obj, left bool, e api.Errno) {
	switch t.kind {
	case aFor:
		n, ok := t.count.next()
		return []api.Obj{n}, ok, api.OK
	case aRepeat:
		t.at--
		return nil, t.at >= 0, api.OK
	case aForall:
		at := t.at
		t.at++
		return m.element(t.goes, at)
	}
	return nil, true, api.OK
}

// next answers the number of the turn, and makes the one of the next turn.
func (c *counted) next() (api.Obj, bool) {
	if c.spent || c.isBeyond() {
		return api.Obj{}, false
	}
	n := c.number
	sum, e := arith.Do("add", n, c.step)
	if e != api.OK {
		c.spent = true
		return n, true
	}
	c.number = sum[0]
	return n, true
}

// isBeyond tells whether the number is beyond the limit: which way, is the step's matter.
func (c *counted) isBeyond() bool {
	down, _ := arith.Less(c.step, whole(0))
	less, _ := arith.Less(c.limit, c.number)
	if down {
		less, _ = arith.Less(c.number, c.limit)
	}
	return less
}

// element answers what forall pushes for the i-th part of o, as it is now.
func (m *Machine) element(o api.Obj, i int) (list []api.Obj, left bool, e api.Errno) {
	if o.Kind == api.Dict {
		k, x, ok := m.store.Pair(o, i)
		return []api.Obj{k, x}, ok, api.OK
	}
	if i >= o.Len {
		return nil, false, api.OK
	}
	if o.Kind == api.Array {
		x, e := m.store.At(o, i)
		return []api.Obj{x}, true, e
	}
	part, _ := m.store.Part(o, i, 1)
	b, e := m.store.Bytes(part)
	if e != api.OK {
		return nil, false, e
	}
	return []api.Obj{whole(int(b[0]))}, true, api.OK
}

// loopName answers the operator that such a loop comes from.
func loopName(kind int) string {
	switch kind {
	case aFor:
		return "for"
	case aRepeat:
		return "repeat"
	case aForall:
		return "forall"
	}
	return "loop"
}
