package coll

import (
	"bytes"

	"mezzotint/api"
)

// fresh hands over a new thing of length n.
func fresh(n api.Obj, made func(n int) (api.Obj, api.Errno)) []api.Obj {
	need(isInt(n))
	return handed(sure(made(n.N)))
}

func (c call) length(o api.Obj) []api.Obj {
	if o.Kind == api.Name {
		return handed(whole(len(o.Name)))
	}
	need(isRow(o) || o.Kind == api.Dict)
	c.read(o)
	if isRow(o) {
		return handed(whole(o.Len))
	}
	pairs, _ := c.room(o)
	return handed(whole(pairs))
}

func (c call) maxLength(d api.Obj) []api.Obj {
	need(d.Kind == api.Dict)
	c.read(d)
	_, most := c.room(d)
	return handed(whole(most))
}

// room answers how many pairs d has, and may have.
func (c call) room(d api.Obj) (pairs, most int) {
	pairs, most, e := c.Size(d)
	pass(e)
	return pairs, most
}

// load hands over what an array has, and the array itself.
func (c call) load(o api.Obj) []api.Obj {
	need(o.Kind == api.Array)
	c.read(o)
	return append(sure(c.Items(o)), o)
}

func (c call) get(o, at api.Obj) []api.Obj {
	if o.Kind == api.Dict {
		c.entry(o, at, c.read)
		x, ok := c.Find(o, at)
		if !ok {
			giveUp(api.Undefined)
		}
		return handed(x)
	}
	need(isRow(o) && isInt(at))
	c.read(o)
	if o.Kind == api.Array {
		return handed(sure(c.At(o, at.N)))
	}
	b := sure(c.Bytes(sure(c.Part(o, at.N, 1))))
	return handed(whole(int(b[0])))
}

func (c call) put(o, at, x api.Obj) []api.Obj {
	if o.Kind == api.Dict {
		c.entry(o, at, c.write)
		pass(c.Set(o, at, x))
		return nil
	}
	need(isRow(o) && isInt(at) && (o.Kind == api.Array || isInt(x)))
	c.write(o)
	if o.Kind == api.Array {
		pass(c.Put(o, at.N, x))
		return nil
	}
	if x.N < 0 || x.N > 255 {
		giveUp(api.RangeCheck)
	}
	pass(c.Write(o, at.N, []byte{byte(x.N)}))
	return nil
}

// entry asks for a dictionary that may be used so, and a key of it. A key's own TypeCheck goes ahead of the
// dictionary's access, as each TypeCheck does; its other error does not.
func (c call) entry(d, k api.Obj, allowed func(o api.Obj)) {
	_, e := c.Key(k)
	need(d.Kind == api.Dict && e != api.TypeCheck)
	allowed(d)
	pass(e)
}

func (c call) known(d, k api.Obj) []api.Obj {
	c.entry(d, k, c.read)
	_, ok := c.Find(d, k)
	return handed(truth(ok))
}

func (c call) undefine(d, k api.Obj) []api.Obj {
	c.entry(d, k, c.write)
	if e := c.Drop(d, k); e != api.Undefined {
		pass(e)
	}
	return nil
}

func (c call) getInterval(o, from, n api.Obj) []api.Obj {
	need(isRow(o) && isInt(from) && isInt(n))
	c.read(o)
	return handed(sure(c.Part(o, from.N, n.N)))
}

func (c call) putInterval(o, at, x api.Obj) []api.Obj {
	need(isRow(o) && isInt(at) && x.Kind == o.Kind)
	c.write(o)
	c.read(x)
	c.lay(x, o, at.N)
	return nil
}

func (c call) copy(from, to api.Obj) []api.Obj {
	need((isRow(from) || from.Kind == api.Dict) && to.Kind == from.Kind)
	c.read(from)
	c.write(to)
	if isRow(from) {
		return handed(c.lay(from, to, 0))
	}
	c.copyPairs(from, to)
	return handed(to)
}

// lay writes what x has into o, from at on, and answers the part that it comes to. All of x is read ahead of
// writing, as both may be parts of one thing, and o is asked for the whole room ahead, so that all of it is
// written, or nothing.
func (c call) lay(x, o api.Obj, at int) api.Obj {
	part := sure(c.Part(o, at, x.Len))
	if x.Kind == api.String {
		pass(c.Write(part, 0, sure(c.Bytes(x))))
		return part
	}
	for i, item := range sure(c.Items(x)) {
		pass(c.Put(part, i, item))
	}
	return part
}

// copyPairs lets to, which has to be empty, have what from has.
func (c call) copyPairs(from, to api.Obj) {
	pairs, _ := c.room(from)
	already, most := c.room(to)
	if already > 0 || most < pairs {
		giveUp(api.RangeCheck)
	}
	for i := range pairs {
		k, x, _ := c.Pair(from, i)
		pass(c.Set(to, k, x))
	}
}

// same hands over whether a and b are the same, or, if that is what is wanted, are not.
func (c call) same(a, b api.Obj, wanted bool) []api.Obj {
	for _, o := range []api.Obj{a, b} {
		if o.Kind == api.String {
			c.read(o)
		}
	}
	return handed(truth(Same(c.Store, a, b) == wanted))
}

// inOrder hands over whether what Compare says of two strings is as asked.
func (c call) inOrder(a, b api.Obj, asked func(order int) bool) []api.Obj {
	x, y := c.twoTexts(a, b)
	return handed(truth(asked(bytes.Compare(x, y))))
}

// twoTexts answers the bytes of two strings.
func (c call) twoTexts(a, b api.Obj) (x, y []byte) {
	need(a.Kind == api.String && b.Kind == api.String)
	c.read(a)
	c.read(b)
	return sure(c.Bytes(a)), sure(c.Bytes(b))
}

func (c call) search(text, sought api.Obj) []api.Obj {
	x, y := c.twoTexts(text, sought)
	at := bytes.Index(x, y)
	if at < 0 {
		return handed(text, truth(false))
	}
	return handed(c.behind(text, at+len(y)), sure(c.Part(text, at, len(y))), sure(c.Part(text, 0, at)), truth(true))
}

func (c call) anchorSearch(text, sought api.Obj) []api.Obj {
	x, y := c.twoTexts(text, sought)
	if !bytes.HasPrefix(x, y) {
		return handed(text, truth(false))
	}
	return handed(c.behind(text, len(y)), sure(c.Part(text, 0, len(y))), truth(true))
}

// behind answers the part of a text from at on.
func (c call) behind(text api.Obj, at int) api.Obj {
	return sure(c.Part(text, at, text.Len-at))
}
