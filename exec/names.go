package exec

import (
	"iter"
	"slices"

	"mezzotint/api"
	"mezzotint/stack"
)

// userPairs is how many pairs userdict may have.
const userPairs = 200

// Names answers the names of all operators.
func Names() []string {
	return slices.Concat(
		[]string{"neg", "abs", "ceiling", "floor", "round", "truncate", "sqrt", "sin", "cos", "not"},
		[]string{"add", "sub", "mul", "div", "idiv", "mod", "and", "or", "xor", "bitshift", "gt", "ge", "lt", "le"},
		[]string{"string", "array", "dict", "length", "maxlength", "get", "put", "getinterval", "putinterval", "copy"},
		[]string{"aload", "known", "undef", "eq", "ne", "search", "anchorsearch"},
		[]string{"type", "cvx", "cvlit", "xcheck", "cvi", "cvr", "cvn", "cvs", "cvrs"},
		[]string{"readonly", "executeonly", "noaccess", "rcheck", "wcheck"},
		[]string{"pop", "exch", "dup", "index", "roll", "clear", "count", "mark", "[", "<<"},
		[]string{"cleartomark", "counttomark", "]", ">>", "astore"},
		[]string{"exec", "if", "ifelse", "for", "repeat", "loop", "forall"},
		[]string{"exit", "stopped", "stop", "quit", "countexecstack"},
		[]string{"begin", "end", "def", "load", "store", "where", "currentdict"},
		[]string{"countdictstack", "cleardictstack", "bind", "save", "restore"},
	)
}

// takes answers of which kinds the operands of an operator are; of one that an elder layer does, which asks itself,
// and of one without operands, none.
func takes(name string) []int {
	switch name {
	case "pop", "dup", "exec", "stopped", "load", "where":
		return []int{stack.Any}
	case "exch", "def", "store":
		return []int{stack.Any, stack.Any}
	case "index":
		return []int{api.Int}
	case "roll":
		return []int{api.Int, api.Int}
	case "astore":
		return []int{api.Array}
	case "if":
		return []int{api.Bool, stack.Proc}
	case "ifelse":
		return []int{api.Bool, stack.Proc, stack.Proc}
	case "for":
		return []int{stack.Number, stack.Number, stack.Number, stack.Proc}
	case "repeat":
		return []int{api.Int, stack.Proc}
	case "forall":
		return []int{stack.Any, stack.Proc}
	case "loop", "bind":
		return []int{stack.Proc}
	case "begin":
		return []int{api.Dict}
	case "restore":
		return []int{api.Save}
	}
	return nil
}

// furnish makes systemdict and userdict, and lets them be the dictionaries. Whether there are cells for both is asked
// ahead, so that it is what is told, whether systemdict could be so great or not.
func (m *Machine) furnish(others []string) api.Errno {
	names := slices.Concat(Names(), others)
	most := len(names) + 5
	if 1+2*most+1+2*userPairs > m.store.Free() {
		return api.VMError
	}
	system, e := m.store.Dict(most)
	if e != api.OK {
		return e
	}
	user, e := m.store.Dict(userPairs)
	if e != api.OK {
		return e
	}
	for k, x := range pairs(furniture(names, system, user)) {
		if e := m.store.Set(system, k, x); e != api.OK {
			return e
		}
	}
	if e := m.store.Lock(system, api.ReadOnly); e != api.OK {
		return e
	}
	return m.dicts.Push(system, user)
}

// furniture answers the keys and values of systemdict, in turn.
func furniture(names []string, system, user api.Obj) []api.Obj {
	var list []api.Obj
	for _, name := range names {
		list = append(list, literal(name), api.Obj{Kind: api.Op, Exec: true, Name: name})
	}
	return append(list,
		literal("true"), truth(true),
		literal("false"), truth(false),
		literal("null"), api.Obj{},
		literal("systemdict"), system,
		literal("userdict"), user,
	)
}

// pairs goes through a list of keys and values in turn.
func pairs(list []api.Obj) iter.Seq2[api.Obj, api.Obj] {
	return func(yield func(k, x api.Obj) bool) {
		for i := 0; i+1 < len(list); i += 2 {
			if !yield(list[i], list[i+1]) {
				return
			}
		}
	}
}

func literal(name string) api.Obj {
	return api.Obj{Kind: api.Name, Name: name}
}

func whole(n int) api.Obj {
	return api.Obj{Kind: api.Int, N: n}
}

func truth(holds bool) api.Obj {
	if holds {
		return api.Obj{Kind: api.Bool, N: 1}
	}
	return api.Obj{Kind: api.Bool}
}
