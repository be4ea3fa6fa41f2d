package coll

import (
	"mezzotint/api"
	"mezzotint/store"
)

// call is an operator that is being done on a store. Whichever it is, it asks for its operands' Kinds first, then
// for their access, then for all else, and changes something only when nothing can be wrong any more.
type call struct {
	*store.Store
}

// do does the operator, whose operands are all valid: ErrArg, if there is none of that name with so many.
func (c call) do(name string, args []api.Obj) []api.Obj {
	switch len(args) {
	case 1:
		return c.doOne(name, args[0])
	case 2:
		return c.doTwo(name, args[0], args[1])
	case 3:
		return c.doThree(name, args[0], args[1], args[2])
	}
	giveUp(api.ErrArg)
	return nil
}

func (c call) doOne(name string, o api.Obj) []api.Obj {
	switch name {
	case "string":
		return fresh(o, c.String)
	case "array":
		return fresh(o, c.Array)
	case "dict":
		return fresh(o, c.Dict)
	case "length":
		return c.length(o)
	case "maxlength":
		return c.maxLength(o)
	case "aload":
		return c.load(o)
	}
	giveUp(api.ErrArg)
	return nil
}

func (c call) doTwo(name string, a, b api.Obj) []api.Obj {
	switch name {
	case "get":
		return c.get(a, b)
	case "copy":
		return c.copy(a, b)
	case "known":
		return c.known(a, b)
	case "undef":
		return c.undefine(a, b)
	case "eq":
		return c.same(a, b, true)
	case "ne":
		return c.same(a, b, false)
	case "gt":
		return c.inOrder(a, b, func(order int) bool { return order > 0 })
	case "ge":
		return c.inOrder(a, b, func(order int) bool { return order >= 0 })
	case "lt":
		return c.inOrder(a, b, func(order int) bool { return order < 0 })
	case "le":
		return c.inOrder(a, b, func(order int) bool { return order <= 0 })
	case "search":
		return c.search(a, b)
	case "anchorsearch":
		return c.anchorSearch(a, b)
	}
	giveUp(api.ErrArg)
	return nil
}

func (c call) doThree(name string, a, b, o api.Obj) []api.Obj {
	switch name {
	case "put":
		return c.put(a, b, o)
	case "getinterval":
		return c.getInterval(a, b, o)
	case "putinterval":
		return c.putInterval(a, b, o)
	}
	giveUp(api.ErrArg)
	return nil
}

func giveUp(e api.Errno) {
	panic(givenUp{e})
}

// pass gives up, if there is an error.
func pass(e api.Errno) {
	if e != api.OK {
		giveUp(e)
	}
}

// sure answers x, unless there is an error.
func sure[T any](x T, e api.Errno) T {
	pass(e)
	return x
}

// need gives up, if the operands are not of the Kinds that the operator takes.
func need(holds bool) {
	if !holds {
		giveUp(api.TypeCheck)
	}
}

// read gives up, unless o may be read.
func (c call) read(o api.Obj) {
	if access := c.accessOf(o); access != api.Unlimited && access != api.ReadOnly {
		giveUp(api.InvalidAccess)
	}
}

// write gives up, unless o may be written.
func (c call) write(o api.Obj) {
	if c.accessOf(o) != api.Unlimited {
		giveUp(api.InvalidAccess)
	}
}

func (c call) accessOf(o api.Obj) int {
	if o.Kind == api.Dict {
		return c.Access(o)
	}
	return o.Access
}

func isInt(o api.Obj) bool {
	return o.Kind == api.Int && api.MinInt <= o.N && o.N <= api.MaxInt
}

// isRow tells whether o is a part of something: an Array or a String.
func isRow(o api.Obj) bool {
	return o.Kind == api.Array || o.Kind == api.String
}

func whole(n int) api.Obj {
	return api.Obj{Kind: api.Int, N: n}
}

func truth(holds bool) api.Obj {
	if holds {
		return api.Obj{Kind: api.Bool, N: 1}
	}
	return api.Obj{Kind: api.Bool}
}

// handed answers what is handed over.
func handed(list ...api.Obj) []api.Obj {
	return list
}
