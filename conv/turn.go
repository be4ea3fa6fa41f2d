package conv

import (
	"strconv"
	"strings"

	"mezzotint/api"
	"mezzotint/arith"
	"mezzotint/dec"
	"mezzotint/fix"
)

// asInt answers the Int of a number, or of a String that is one.
func (w worker) asInt(o api.Obj) (api.Obj, api.Errno) {
	n, e := w.number(o)
	if e != api.OK || n.Kind == api.Int {
		return n, e
	}
	return api.Obj{Kind: api.Int, N: fix.Truncate(n.N) / api.One}, api.OK
}

// asReal answers the Real of a number, or of a String that is one.
func (w worker) asReal(o api.Obj) (api.Obj, api.Errno) {
	n, e := w.number(o)
	if e != api.OK || n.Kind == api.Real {
		return n, e
	}
	parts, e := fix.FromInt(n.N)
	if e != api.OK {
		return api.Obj{}, e
	}
	return api.Obj{Kind: api.Real, N: parts}, api.OK
}

// asName answers the Name of a String's bytes.
func (w worker) asName(o api.Obj) (api.Obj, api.Errno) {
	text, e := w.read(o)
	if e != api.OK {
		return api.Obj{}, e
	}
	if len(text) > api.MaxName {
		return api.Obj{}, api.LimitCheck
	}
	return api.Obj{Kind: api.Name, Exec: o.Exec, Name: text}, api.OK
}

// number answers a number without all that is not its value; of a String the number that it is.
func (w worker) number(o api.Obj) (api.Obj, api.Errno) {
	if isNumber(o) {
		return api.Obj{Kind: o.Kind, N: o.N}, api.OK
	}
	text, e := w.read(o)
	if e != api.OK {
		return api.Obj{}, e
	}
	t, ok, e := dec.Token(text)
	switch {
	case !ok:
		return api.Obj{}, api.TypeCheck
	case e != api.OK:
		return api.Obj{}, e
	case t.Kind == api.TokInt:
		return api.Obj{Kind: api.Int, N: t.N}, api.OK
	}
	return api.Obj{Kind: api.Real, N: t.N}, api.OK
}

// isNumber asks chapter 8, which has nothing but numbers equal to anything.
func isNumber(o api.Obj) bool {
	_, ok := arith.Equal(o, o)
	return ok
}

// read answers the bytes of a String that may be read.
func (w worker) read(o api.Obj) (string, api.Errno) {
	if o.Kind != api.String {
		return "", api.TypeCheck
	}
	if !w.mayRead(o) {
		return "", api.InvalidAccess
	}
	b, e := w.Bytes(o)
	return string(b), e
}

// asText writes o's Text into a String.
func (w worker) asText(o, to api.Obj) (api.Obj, api.Errno) {
	if to.Kind != api.String {
		return api.Obj{}, api.TypeCheck
	}
	return w.lay(Text(w.Store, o), to)
}

// asDigits writes a number in digits of a base into a String. Whether it is a number is asked behind the base, as its
// Text, which does for base 10, is told of any N.
func (w worker) asDigits(o, base, to api.Obj) (api.Obj, api.Errno) {
	if o.Kind != api.Int && o.Kind != api.Real {
		return api.Obj{}, api.TypeCheck
	}
	if base.Kind != api.Int || !isNumber(base) || to.Kind != api.String {
		return api.Obj{}, api.TypeCheck
	}
	if !w.mayWrite(to) {
		return api.Obj{}, api.InvalidAccess
	}
	if base.N < 2 || base.N > 36 {
		return api.Obj{}, api.RangeCheck
	}
	if base.N == 10 {
		return w.asText(o, to)
	}
	n, e := w.asInt(o)
	if e != api.OK {
		return api.Obj{}, e
	}
	bits := uint64(uint32(n.N))
	return w.lay([]byte(strings.ToUpper(strconv.FormatUint(bits, base.N))), to)
}

// lay writes a text to the beginning of a String, and answers the part that it comes to.
func (w worker) lay(text []byte, to api.Obj) (api.Obj, api.Errno) {
	if !w.mayWrite(to) {
		return api.Obj{}, api.InvalidAccess
	}
	part, e := w.Part(to, 0, len(text))
	if e != api.OK {
		return api.Obj{}, e
	}
	return part, w.Write(part, 0, text)
}
