package store_test

import (
	"math"
	"math/rand"
	"slices"
	"testing"

	"mezzotint/api"
	"mezzotint/store"
)

// plainThing and plain are a second store, which keeps the whole of itself at each mark.
type plainThing struct {
	kind         int
	bytes        []byte
	items        []api.Obj
	keys, values []api.Obj
	most, access int
}

type plainMark struct {
	number, free int
	things       map[int]plainThing
}

type plain struct {
	free   int
	things map[int]plainThing
	marks  []plainMark
}

func copied(things map[int]plainThing) map[int]plainThing {
	c := map[int]plainThing{}
	for ref, p := range things {
		p.bytes, p.items = slices.Clone(p.bytes), slices.Clone(p.items)
		p.keys, p.values = slices.Clone(p.keys), slices.Clone(p.values)
		c[ref] = p
	}
	return c
}

func (p *plain) copy() *plain {
	c := &plain{free: p.free, things: copied(p.things)}
	for _, m := range p.marks {
		c.marks = append(c.marks, plainMark{m.number, m.free, copied(m.things)})
	}
	return c
}

func (p *plain) told(o api.Obj, kinds ...int) bool {
	return slices.Contains(kinds, o.Kind) && p.valid(o)
}

func (p *plain) valid(o api.Obj) bool {
	if o.Kind != api.String && o.Kind != api.Array && o.Kind != api.Dict {
		return true
	}
	g, ok := p.things[o.Ref]
	if !ok || g.kind != o.Kind || o.From < 0 || o.Len < 0 {
		return false
	}
	size := float64(len(g.bytes) + len(g.items))
	return float64(o.From)+float64(o.Len) <= size
}

func (p *plain) room(kind, n int) api.Errno {
	most := map[int]int{api.String: api.MaxString, api.Array: api.MaxArray, api.Dict: api.MaxDict}[kind]
	cells := map[int]int{api.String: 1 + (n+7)/8, api.Array: 1 + n, api.Dict: 1 + 2*n}[kind]
	switch {
	case n < 0:
		return api.RangeCheck
	case n > most:
		return api.LimitCheck
	case cells > p.free:
		return api.VMError
	}
	p.free -= cells
	return api.OK
}

func (p *plain) key(k api.Obj) (api.Obj, api.Errno) {
	switch {
	case !p.valid(k):
		return null, api.ErrArg
	case k.Kind == api.String && k.Len > 127:
		return null, api.LimitCheck
	case k.Kind == api.String:
		return name(string(p.things[k.Ref].bytes[k.From : k.From+k.Len])), api.OK
	case k.Kind == api.Real && float64(k.N)/65536 == math.Floor(float64(k.N)/65536):
		return whole(int(float64(k.N) / 65536)), api.OK
	case k.Kind == api.Null:
		return null, api.TypeCheck
	}
	k.Exec, k.Access = false, 0
	return k, api.OK
}

// place answers the key of k, and where it is among d's, if d is a dictionary.
func (p *plain) place(d, k api.Obj) (key api.Obj, i int, e api.Errno) {
	if !p.told(d, api.Dict) {
		return null, -1, api.ErrArg
	}
	if key, e = p.key(k); e != api.OK {
		return null, -1, e
	}
	return key, slices.Index(p.things[d.Ref].keys, key), api.OK
}

func (p *plain) put(o api.Obj, i int, x api.Obj) api.Errno {
	switch {
	case !p.told(o, api.Array) || !p.valid(x):
		return api.ErrArg
	case i < 0 || i >= o.Len:
		return api.RangeCheck
	}
	p.things[o.Ref].items[o.From+i] = x
	return api.OK
}

func (p *plain) write(o api.Obj, at int, b []byte) api.Errno {
	switch {
	case !p.told(o, api.String):
		return api.ErrArg
	case at < 0 || at > o.Len || at+len(b) > o.Len:
		return api.RangeCheck
	}
	g := p.things[o.Ref]
	for i, c := range b {
		g.bytes[o.From+at+i] = c
	}
	return api.OK
}

func (p *plain) set(d, k, x api.Obj) api.Errno {
	if !p.valid(x) {
		return api.ErrArg
	}
	key, i, e := p.place(d, k)
	if e != api.OK {
		return e
	}
	g := p.things[d.Ref]
	switch {
	case i >= 0:
		g.values[i] = x
	case len(g.keys) == g.most:
		return api.DictFull
	default:
		g.keys, g.values = append(g.keys, key), append(g.values, x)
	}
	p.things[d.Ref] = g
	return api.OK
}

func (p *plain) drop(d, k api.Obj) api.Errno {
	_, i, e := p.place(d, k)
	if e != api.OK {
		return e
	}
	if i < 0 {
		return api.Undefined
	}
	g := p.things[d.Ref]
	g.keys, g.values = slices.Delete(g.keys, i, i+1), slices.Delete(g.values, i, i+1)
	p.things[d.Ref] = g
	return api.OK
}

func (p *plain) lock(d api.Obj, access int) api.Errno {
	if !p.told(d, api.Dict) || access < 0 || access > 3 {
		return api.ErrArg
	}
	g := p.things[d.Ref]
	g.access = access
	p.things[d.Ref] = g
	return api.OK
}

func (p *plain) markAt(number int) int {
	return slices.IndexFunc(p.marks, func(m plainMark) bool { return m.number == number })
}

func (p *plain) back(number int) api.Errno {
	at := p.markAt(number)
	if at < 0 {
		return api.ErrArg
	}
	then := copied(p.marks[at].things)
	for ref, g := range then {
		if g.kind == api.String {
			then[ref] = p.things[ref]
		}
	}
	p.things, p.free, p.marks = then, p.marks[at].free, p.marks[:at+1]
	return api.OK
}

func (p *plain) elder(o api.Obj, number int) bool {
	at := p.markAt(number)
	if at < 0 || !p.valid(o) {
		return false
	}
	_, there := p.marks[at].things[o.Ref]
	return there || !p.told(o, api.String, api.Array, api.Dict)
}

// twins are a store and a plain one that is done the same to.
type twins struct {
	t    *testing.T
	r    *rand.Rand
	s    *store.Store
	p    *plain
	refs map[int]bool // that were ever given
	pool []api.Obj    // objects that calls are given: good ones, and those that are gone or were never there
	nums []int        // marks, likewise
	step int
}

func (w *twins) same(what string, e, want api.Errno) {
	w.t.Helper()
	if e != want {
		w.t.Fatalf("step %d: %s: %d, not %d", w.step, what, e, want)
	}
}

// made holds a new object against the plain one.
func (w *twins) made(what string, o api.Obj, e, want api.Errno, g plainThing) {
	w.t.Helper()
	w.same(what, e, want)
	if e != api.OK {
		if o != null {
			w.t.Fatalf("step %d: %s: %+v beside an error", w.step, what, o)
		}
		return
	}
	if o != (api.Obj{Kind: g.kind, Ref: o.Ref, Len: len(g.bytes) + len(g.items)}) || w.refs[o.Ref] {
		w.t.Fatalf("step %d: %s: %+v, or its Ref was given already", w.step, what, o)
	}
	w.refs[o.Ref] = true
	w.p.things[o.Ref] = g
	w.pool = append(w.pool, o)
}

// pick answers any object, of which parts and wrong ones are made now and then.
func (w *twins) pick() api.Obj {
	r := w.r
	some := []api.Obj{null, whole(r.Intn(4)), realOf(r.Intn(4) * 32768), name(string(rune('a' + r.Intn(4)))), {Kind: api.Bool, N: r.Intn(2)}, {Kind: api.Mark}, {Kind: 77}}
	if len(w.pool) == 0 || r.Intn(5) == 0 {
		return some[r.Intn(len(some))]
	}
	o := w.pool[len(w.pool)-1-r.Intn(min(len(w.pool), 25))]
	if o.Kind != api.Dict && r.Intn(3) == 0 {
		o.From += r.Intn(4) - 1
		o.Len -= r.Intn(4) - 1
	}
	switch r.Intn(40) {
	case 0:
		o.Ref += r.Intn(5) - 2
	case 1:
		o.Kind = api.String + r.Intn(3)
	case 2:
		o.From = math.MaxInt - r.Intn(2)
	case 3:
		o.Len = math.MaxInt - r.Intn(2)
	}
	o.Exec = r.Intn(2) == 0
	o.Access = r.Intn(4)
	return o
}

// pickOf answers an object that is mostly of that kind.
func (w *twins) pickOf(kind int) api.Obj {
	o := w.pick()
	for range 10 {
		if o.Kind == kind {
			break
		}
		o = w.pick()
	}
	return o
}

func (w *twins) pickMark() int {
	if len(w.nums) == 0 || w.r.Intn(10) == 0 {
		return w.r.Intn(5) - 2
	}
	return w.nums[len(w.nums)-1-w.r.Intn(min(len(w.nums), 6))]
}

func (w *twins) make() {
	r, s, p := w.r, w.s, w.p
	n := r.Intn(12) - 1
	if r.Intn(30) == 0 {
		n = []int{65535, 65536, 4096, 4097, math.MaxInt, math.MinInt, 100}[r.Intn(7)]
	}
	switch r.Intn(5) {
	case 0:
		o, e := s.String(n)
		want := p.room(api.String, n)
		w.made("String", o, e, want, plainThing{kind: api.String, bytes: make([]byte, max(0, o.Len))})
	case 1:
		o, e := s.Array(n)
		want := p.room(api.Array, n)
		w.made("Array", o, e, want, plainThing{kind: api.Array, items: make([]api.Obj, max(0, o.Len))})
	case 2:
		o, e := s.Dict(n)
		want := p.room(api.Dict, n)
		w.made("Dict", o, e, want, plainThing{kind: api.Dict, most: n})
	case 3:
		b := make([]byte, r.Intn(12))
		for i := range b {
			b[i] = byte('a' + r.Intn(4))
		}
		o, e := s.Text(b)
		want := p.room(api.String, len(b))
		w.made("Text", o, e, want, plainThing{kind: api.String, bytes: b})
	case 4:
		var list []api.Obj
		for range r.Intn(5) {
			list = append(list, w.pick())
		}
		o, e := s.List(list...)
		want := api.ErrArg
		if !slices.ContainsFunc(list, func(x api.Obj) bool { return !p.valid(x) }) {
			want = p.room(api.Array, len(list))
		}
		w.made("List", o, e, want, plainThing{kind: api.Array, items: slices.Clone(list)})
	}
}

func (w *twins) change() {
	r, s, p := w.r, w.s, w.p
	switch r.Intn(8) {
	case 0:
		o, at, b := w.pickOf(api.String), r.Intn(14)-2, []byte("xyz")[:r.Intn(4)]
		w.same("Write", s.Write(o, at, b), p.write(o, at, b))
	case 1, 2:
		o, i, x := w.pickOf(api.Array), r.Intn(14)-2, w.pick()
		w.same("Put", s.Put(o, i, x), p.put(o, i, x))
	case 3, 4, 5:
		d, k, x := w.pickOf(api.Dict), w.pick(), w.pick()
		w.same("Set", s.Set(d, k, x), p.set(d, k, x))
	case 6:
		d, k := w.pickOf(api.Dict), w.pick()
		if n, _, _ := s.Size(d); n > 0 && r.Intn(2) == 0 {
			k, _, _ = s.Pair(d, r.Intn(n))
		}
		w.same("Drop", s.Drop(d, k), p.drop(d, k))
	case 7:
		d, access := w.pickOf(api.Dict), r.Intn(6)-1
		w.same("Lock", s.Lock(d, access), p.lock(d, access))
	}
}

func (w *twins) ask() {
	s, p := w.s, w.p
	o, k, m := w.pick(), w.pick(), w.pickMark()
	if s.Valid(o) != p.valid(o) || s.Elder(o, m) != p.elder(o, m) {
		w.t.Fatalf("step %d: %+v: Valid %v, Elder(%d) %v", w.step, o, s.Valid(o), m, s.Elder(o, m))
	}
	key, e := s.Key(k)
	if want, we := p.key(k); key != want || e != we {
		w.t.Fatalf("step %d: Key(%+v): %+v %d, not %+v %d", w.step, k, key, e, want, we)
	}
	x, ok := s.Find(o, k)
	want := null
	_, i, _ := p.place(o, k)
	if i >= 0 {
		want = p.things[o.Ref].values[i]
	}
	if ok != (i >= 0) || x != want {
		w.t.Fatalf("step %d: Find(%+v, %+v): %+v %v, not %+v", w.step, o, k, x, ok, want)
	}
	from, n := w.r.Intn(8)-2, w.r.Intn(8)-2
	g, e := s.Part(o, from, n)
	switch {
	case !p.told(o, api.String, api.Array):
		w.same("Part", e, api.ErrArg)
	case from < 0 || n < 0 || from+n > o.Len:
		w.same("Part", e, api.RangeCheck)
	default:
		w.same("Part", e, api.OK)
		w.pool = append(w.pool, g)
		o.From, o.Len = o.From+from, n
		if g != o {
			w.t.Fatalf("step %d: Part: %+v, not %+v", w.step, g, o)
		}
		return
	}
	if g != null {
		w.t.Fatalf("step %d: Part: %+v beside an error", w.step, g)
	}
}

// one does one thing to both.
func (w *twins) one() {
	switch n := w.r.Intn(100); {
	case n < 20:
		w.make()
	case n < 75:
		w.change()
	case n < 90:
		w.ask()
	case n < 95:
		m := w.s.Mark()
		if m <= 0 || slices.Contains(w.nums, m) {
			w.t.Fatalf("step %d: the mark %d", w.step, m)
		}
		w.nums = append(w.nums, m)
		w.p.marks = append(w.p.marks, plainMark{m, w.p.free, copied(w.p.things)})
	default:
		m := w.pickMark()
		w.same("Back", w.s.Back(m), w.p.back(m))
	}
}

// check holds the whole of both against one another.
func (w *twins) check() {
	s, p := w.s, w.p
	if s.Free() != p.free {
		w.t.Fatalf("step %d: %d cells are left, not %d", w.step, s.Free(), p.free)
	}
	for _, m := range w.nums[max(0, len(w.nums)-6):] {
		if s.Elder(null, m) != (p.markAt(m) >= 0) {
			w.t.Fatalf("step %d: is %d a mark: %v", w.step, m, s.Elder(null, m))
		}
	}
	for ref := range w.refs {
		g, ok := p.things[ref]
		if !ok {
			for _, kind := range []int{api.String, api.Array, api.Dict} {
				if s.Valid(api.Obj{Kind: kind, Ref: ref}) {
					w.t.Fatalf("step %d: %d is not gone", w.step, ref)
				}
			}
			continue
		}
		w.checkThing(api.Obj{Kind: g.kind, Ref: ref, Len: len(g.bytes) + len(g.items)}, g)
	}
}

func (w *twins) checkThing(o api.Obj, g plainThing) {
	s := w.s
	switch g.kind {
	case api.String:
		if b, e := s.Bytes(o); e != api.OK || string(b) != string(g.bytes) {
			w.t.Fatalf("step %d: %d has %q %d, not %q", w.step, o.Ref, b, e, g.bytes)
		}
	case api.Array:
		if list, e := s.Items(o); e != api.OK || !slices.Equal(list, g.items) {
			w.t.Fatalf("step %d: %d has %v %d, not %v", w.step, o.Ref, list, e, g.items)
		}
	case api.Dict:
		n, most, e := s.Size(o)
		if n != len(g.keys) || most != g.most || e != api.OK || s.Access(o) != g.access {
			w.t.Fatalf("step %d: %d: Size %d %d %d, Access %d, not %d %d, %d", w.step, o.Ref, n, most, e, s.Access(o), len(g.keys), g.most, g.access)
		}
		for i := range n {
			if k, x, ok := s.Pair(o, i); !ok || k != g.keys[i] || x != g.values[i] {
				w.t.Fatalf("step %d: %d: pair %d is %+v %+v, not %+v %+v", w.step, o.Ref, i, k, x, g.keys[i], g.values[i])
			}
		}
	}
}

// P5.1 to P5.5: many calls, on a store and on copies of it, held against one that keeps the whole at each mark.
func TestManyCalls(t *testing.T) {
	for seed := range int64(60) {
		r := rand.New(rand.NewSource(seed))
		cells := 100 + r.Intn(400)
		first := &twins{t: t, r: r, s: fresh(t, cells), p: &plain{free: cells, things: map[int]plainThing{}}, refs: map[int]bool{}}
		all := []*twins{first}
		for step := range 1500 {
			w := all[r.Intn(len(all))]
			w.step = step
			w.one()
			w.check()
			if r.Intn(300) == 0 && len(all) < 4 {
				refs := map[int]bool{}
				for ref := range w.refs {
					refs[ref] = true
				}
				all = append(all, &twins{t: t, r: r, s: w.s.Copy(), p: w.p.copy(), refs: refs, pool: slices.Clone(w.pool), nums: slices.Clone(w.nums)})
			}
			if step%50 == 0 {
				for _, w := range all {
					w.check()
				}
			}
		}
		for _, w := range all {
			w.check()
		}
	}
}
