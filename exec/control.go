package exec

import (
	"mezzotint/api"
	"mezzotint/arith"
	"mezzotint/conv"
)

// operate does an operator. With an error the operands are as they were: those that do something else take their
// operands only when nothing but that can have an error any more.
func (m *Machine) operate(name string) fault {
	if _, ok := m.others[name]; ok {
		m.status = Status{Kind: Asks, Name: name}
		return fault{}
	}
	if e := m.operands.Need(takes(name)...); e != api.OK {
		return fault{e, name}
	}
	switch name {
	case "exec":
		return m.execute()
	case "stopped":
		return m.stopped()
	case "if":
		return m.choose(2)
	case "ifelse":
		return m.choose(3)
	case "for", "repeat", "loop", "forall":
		return m.startLoop(name)
	case "exit":
		return fault{m.exit(), name}
	case "stop":
		return m.stop()
	case "quit":
		m.status = Status{Kind: Ended}
		return fault{}
	}
	return fault{m.compute(name), name}
}

// execute does the operand.
func (m *Machine) execute() fault {
	top, _ := m.operands.Top(0)
	o, who, f := m.meant(top, "exec")
	if f.e == api.OK {
		f = m.ready(o)
	}
	if f.e != api.OK {
		return f
	}
	m.operands.Take(1)
	return m.act(o, who)
}

// ready tells what keeps an object from being begun, if it is one that is.
func (m *Machine) ready(o api.Obj) fault {
	switch {
	case !o.Exec || o.Kind != api.Array && o.Kind != api.String:
		return fault{}
	case !m.store.Valid(o):
		return fault{api.ErrArg, "exec"}
	case m.isFull():
		return fault{api.ExecStackOverflow, "exec"}
	}
	return fault{}
}

// stopped does the operand likewise, as something whose errors are stopped.
func (m *Machine) stopped() fault {
	if f := m.put(thing{kind: aStopped}); f.e != api.OK {
		return f
	}
	return m.execute()
}

// choose begins the procedure that the truth below it asks for: of n operands the next one if it holds, else the one
// behind that, if there is one.
func (m *Machine) choose(n int) fault {
	args, _ := m.top(n)
	chosen := 1
	if args[0].N == 0 {
		chosen = 2
	}
	if chosen < n {
		if f := m.put(thing{kind: aProcedure, proc: args[chosen]}); f.e != api.OK {
			return f
		}
	}
	m.operands.Take(n)
	return fault{}
}

// startLoop puts a loop on top of what is being done. Its first turn is the next step's.
func (m *Machine) startLoop(name string) fault {
	args, _ := m.top(len(takes(name)))
	t, e := m.loopOf(name, args)
	if e != api.OK {
		return fault{e, name}
	}
	if f := m.put(t); f.e != api.OK {
		return f
	}
	m.operands.Take(len(args))
	return fault{}
}

// loopOf answers the loop that these operands are for.
func (m *Machine) loopOf(name string, args []api.Obj) (thing, api.Errno) {
	first := args[0]
	proc := args[len(args)-1]
	switch name {
	case "for":
		return thing{kind: aFor, proc: proc, count: counted{number: first, step: args[1], limit: args[2]}}, numbers(args[:3])
	case "repeat":
		if first.N < 0 {
			return thing{}, api.RangeCheck
		}
		return thing{kind: aRepeat, proc: proc, at: first.N}, api.OK
	case "forall":
		return thing{kind: aForall, proc: proc, goes: first}, m.check("rcheck", first)
	}
	return thing{kind: aLoop, proc: proc}, api.OK
}

// numbers tells whether all of these are numbers as chapter 8 has them, which holds an Int or a Real that is none
// against nothing.
func numbers(list []api.Obj) api.Errno {
	for _, o := range list {
		if _, ok := arith.Equal(o, o); !ok {
			return api.TypeCheck
		}
	}
	return api.OK
}

// check asks by rcheck or wcheck whether o may be used so: a TypeCheck, if it is nothing that is read or written.
func (m *Machine) check(asked string, o api.Obj) api.Errno {
	list, e := conv.Do(m.store, asked, o)
	if e != api.OK {
		return e
	}
	if list[0] != truth(true) {
		return api.InvalidAccess
	}
	return api.OK
}

// exit lets the topmost loop be over, and all above it.
func (m *Machine) exit() api.Errno {
	for n := len(m.things); n > 0; n-- {
		switch kind := m.things[n-1].kind; {
		case kind >= aFor:
			m.leave(n - 1)
			return api.OK
		case kind != aProcedure:
			return api.InvalidExit
		}
	}
	return api.InvalidExit
}

// stop does as an error does that is stopped.
func (m *Machine) stop() fault {
	if !m.unwind() {
		return fault{api.InvalidExit, "stop"}
	}
	return m.push(truth(true), "stopped")
}
