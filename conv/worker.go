package conv

import (
	"mezzotint/api"
	"mezzotint/store"
)

// worker does operators on what its store has. Whichever it is, it asks for the operands' Kinds first, then for their
// access, then for all else, and changes something only when nothing can be wrong any more.
type worker struct {
	*store.Store
}

// do does an operator that is known, on just so many operands, which are valid.
func (w worker) do(name string, args []api.Obj) (api.Obj, api.Errno) {
	o := args[0]
	switch name {
	case "type":
		return typeOf(o)
	case "cvx", "cvlit":
		o.Exec = name == "cvx"
		return o, api.OK
	case "xcheck":
		return truth(o.Exec), api.OK
	case "cvi":
		return w.asInt(o)
	case "cvr":
		return w.asReal(o)
	case "cvn":
		return w.asName(o)
	case "cvs":
		return w.asText(o, args[1])
	case "cvrs":
		return w.asDigits(o, args[1], args[2])
	case "readonly":
		return w.bar(o, api.ReadOnly)
	case "executeonly":
		return w.bar(o, api.ExecuteOnly)
	case "noaccess":
		return w.bar(o, api.NoAccess)
	case "rcheck":
		return w.check(o, w.mayRead)
	case "wcheck":
		return w.check(o, w.mayWrite)
	}
	return api.Obj{}, api.ErrArg
}

// typeNames are what type says of each Kind.
var typeNames = [...]string{
	api.Null:   "nulltype",
	api.Int:    "integertype",
	api.Real:   "realtype",
	api.Bool:   "booleantype",
	api.Mark:   "marktype",
	api.Name:   "nametype",
	api.String: "stringtype",
	api.Array:  "arraytype",
	api.Dict:   "dicttype",
	api.Op:     "operatortype",
	api.Save:   "savetype",
}

func typeOf(o api.Obj) (api.Obj, api.Errno) {
	if o.Kind < 0 || o.Kind >= len(typeNames) {
		return api.Obj{}, api.TypeCheck
	}
	return api.Obj{Kind: api.Name, Exec: true, Name: typeNames[o.Kind]}, api.OK
}

func truth(holds bool) api.Obj {
	if holds {
		return api.Obj{Kind: api.Bool, N: 1}
	}
	return api.Obj{Kind: api.Bool}
}

// bar answers o with that access, unless it has no more already.
func (w worker) bar(o api.Obj, access int) (api.Obj, api.Errno) {
	if !isHeld(o) || o.Kind == api.Dict && access == api.ExecuteOnly {
		return api.Obj{}, api.TypeCheck
	}
	own := w.accessOf(o)
	switch {
	case own == api.NoAccess && access != api.NoAccess:
		return api.Obj{}, api.InvalidAccess
	case own >= access:
		return o, api.OK
	case o.Kind == api.Dict:
		return o, w.Lock(o, access)
	}
	o.Access = access
	return o, api.OK
}

// check answers whether o may be used as asked.
func (w worker) check(o api.Obj, allowed func(o api.Obj) bool) (api.Obj, api.Errno) {
	if !isHeld(o) {
		return api.Obj{}, api.TypeCheck
	}
	return truth(allowed(o)), api.OK
}

// isHeld tells whether o tells of something that the store holds: all else has no access to be asked for.
func isHeld(o api.Obj) bool {
	return o.Kind == api.Array || o.Kind == api.String || o.Kind == api.Dict
}

func (w worker) mayRead(o api.Obj) bool {
	access := w.accessOf(o)
	return access == api.Unlimited || access == api.ReadOnly
}

func (w worker) mayWrite(o api.Obj) bool {
	return w.accessOf(o) == api.Unlimited
}

func (w worker) accessOf(o api.Obj) int {
	if o.Kind == api.Dict {
		return w.Access(o)
	}
	return o.Access
}
