package exec

import (
	"mezzotint/api"
	"mezzotint/scan"
)

// find answers the topmost dictionary that has the key, and what that has for it.
func (m *Machine) find(k api.Obj) (d, x api.Obj, ok bool) {
	for i := range m.dicts.Len() {
		d, _ := m.dicts.Top(i)
		if x, ok := m.store.Find(d, k); ok {
			return d, x, true
		}
	}
	return api.Obj{}, api.Obj{}, false
}

// push pushes an object; who is told, if it has no room.
func (m *Machine) push(o api.Obj, who string) fault {
	return fault{m.operands.Push(o), who}
}

// do does an object as exec does: a procedure is begun. If it comes to be pushed, and has no room, who is told, or
// the name that stood for it.
func (m *Machine) do(o api.Obj, who string) fault {
	o, who, f := m.meant(o, who)
	if f.e != api.OK {
		return f
	}
	return m.act(o, who)
}

// meant answers what an object stands for, or itself if it is no executable name; and who is told if that has no room.
func (m *Machine) meant(o api.Obj, who string) (api.Obj, string, fault) {
	for n := 0; o.Exec && o.Kind == api.Name; n++ {
		if n == m.limits.Execs {
			return api.Obj{}, "", fault{api.ExecStackOverflow, "exec"}
		}
		_, x, ok := m.find(o)
		if !ok {
			return api.Obj{}, "", fault{api.Undefined, o.Name}
		}
		who = o.Name
		o = x
	}
	return o, who, fault{}
}

// act does an object that is no executable name.
func (m *Machine) act(o api.Obj, who string) fault {
	if !o.Exec {
		return m.push(o, who)
	}
	switch o.Kind {
	case api.Op:
		return m.operate(o.Name)
	case api.Null:
		return fault{}
	case api.Array:
		return m.put(thing{kind: aProcedure, proc: o})
	case api.String:
		return m.beginText(o)
	}
	return m.push(o, who)
}

// beginText begins the bytes that a string has now: what is written to it later is no matter to the program.
func (m *Machine) beginText(o api.Obj) fault {
	b, e := m.store.Bytes(o)
	if e != api.OK {
		return fault{e, "exec"}
	}
	return m.put(thing{kind: aProgram, text: b})
}

// token does the next token of a program.
func (m *Machine) token(t *thing) fault {
	k, f := next(t)
	if f.e != api.OK {
		return f
	}
	switch k.Kind {
	case api.TokEnd:
		m.off()
		return fault{}
	case api.TokName:
		return m.do(called(k.Text), "scan")
	}
	o, f := m.object(t, k, 1)
	if f.e != api.OK {
		return f
	}
	if k.Kind == api.TokNow {
		return m.push(o, k.Text)
	}
	return m.push(o, "scan")
}

// next answers the program's next token, and goes behind it.
func next(t *thing) (api.Token, fault) {
	k, at, e := scan.Next(t.text, t.at)
	if e != api.OK {
		return api.Token{}, fault{e, "scan"}
	}
	t.at = at
	return k, fault{}
}

// called answers an executable name.
func called(name string) api.Obj {
	return api.Obj{Kind: api.Name, Exec: true, Name: name}
}

// object answers a token as an object; if a procedure begins by it, with all up to its end, as the depth-th one within
// one another.
func (m *Machine) object(t *thing, k api.Token, depth int) (api.Obj, fault) {
	switch k.Kind {
	case api.TokInt:
		return whole(k.N), fault{}
	case api.TokReal:
		return api.Obj{Kind: api.Real, N: k.N}, fault{}
	case api.TokName:
		return called(k.Text), fault{}
	case api.TokLiteral:
		return literal(k.Text), fault{}
	case api.TokNow:
		x, ok := m.Lookup(k.Text)
		if !ok {
			return api.Obj{}, fault{api.Undefined, k.Text}
		}
		return x, fault{}
	case api.TokString:
		return scanned(m.store.Text([]byte(k.Text)))
	case api.TokOpen:
		return m.procedure(t, depth)
	}
	return api.Obj{}, fault{api.SyntaxError, "scan"}
}

// procedure answers the procedure whose { was the last token.
func (m *Machine) procedure(t *thing, depth int) (api.Obj, fault) {
	if depth > api.MaxNest {
		return api.Obj{}, fault{api.LimitCheck, "scan"}
	}
	var items []api.Obj
	for {
		k, f := next(t)
		if f.e != api.OK {
			return api.Obj{}, f
		}
		if k.Kind == api.TokClose {
			o, f := scanned(m.store.List(items...))
			o.Exec = f.e == api.OK
			return o, f
		}
		// Told here, as what is wrong farther on is not come to.
		if k.Kind != api.TokEnd && len(items) == api.MaxArray {
			return api.Obj{}, fault{api.LimitCheck, "scan"}
		}
		o, f := m.object(t, k, depth+1)
		if f.e != api.OK {
			return api.Obj{}, f
		}
		items = append(items, o)
	}
}

// scanned answers what was made of a token, or that this could not be.
func scanned(o api.Obj, e api.Errno) (api.Obj, fault) {
	if e != api.OK {
		return api.Obj{}, fault{e, "scan"}
	}
	return o, fault{}
}
