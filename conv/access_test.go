package conv_test

import (
	"math"
	"testing"

	"mezzotint/api"
	"mezzotint/conv"
)

var barring = map[string]int{"readonly": api.ReadOnly, "executeonly": api.ExecuteOnly, "noaccess": api.NoAccess}

// P10.1: from each access to each one, of strings, of arrays and of parts of them: all else stays, and so does what
// was handed in.
func TestBarParts(t *testing.T) {
	b := newBench(t)
	s, a := b.text("abcd"), b.list(null, mark, null)
	for _, o := range []api.Obj{s, a, run(s), run(a), b.part(s, 1, 2), b.part(a, 2, 1), b.part(s, 4, 0), b.list()} {
		for own := range 4 {
			for name, access := range barring {
				o.Access = own
				want := o
				want.Access = max(own, access)
				if own == api.NoAccess && name != "noaccess" {
					b.refuses(api.InvalidAccess, name, o)
					continue
				}
				b.tells(want, name, o)
			}
		}
	}
}

// P10.1: of an access that is none of the four it is asked, too, whether it is less.
func TestBarOddAccess(t *testing.T) {
	b := newBench(t)
	for _, o := range []api.Obj{b.text("ab"), b.list(null)} {
		for name, access := range barring {
			want := b.with(o, access)
			b.tells(want, name, b.with(o, -1))
			b.tells(want, name, b.with(o, math.MinInt))
			b.tells(b.with(o, 4), name, b.with(o, 4))
			b.tells(b.with(o, math.MaxInt), name, b.with(o, math.MaxInt))
		}
	}
}

// P10.1: of dictionaries: the access is the store's, so it counts for all objects that tell of the same one, and for
// no other one; the object stays as it is, whatever access it has of its own.
func TestBarDictionaries(t *testing.T) {
	for own := range 4 {
		for _, name := range []string{"readonly", "noaccess"} {
			for told := range 4 {
				b := newBench(t)
				d, other := b.dict(1), b.dict(1)
				b.fine(b.s.Set(other, whole(1), d))
				b.with(d, own)
				o := run(d)
				o.Access = told
				if own == api.NoAccess && name == "readonly" {
					b.refuses(api.InvalidAccess, name, o)
					continue
				}
				b.gives(o, name, o)
				inner, ok := b.s.Find(other, whole(1))
				want := max(own, barring[name])
				if got := b.s.Access(d); got != want || b.s.Access(inner) != want || !ok {
					t.Errorf("%s from %d: %d, not %d", name, own, got, want)
				}
				if b.s.Access(other) != api.Unlimited {
					t.Errorf("%s: another one has it, too", name)
				}
				b.tells(truth(want == api.ReadOnly), "rcheck", inner)
				b.tells(no, "wcheck", inner)
			}
		}
	}
}

// P10.1: executeonly of a dictionary is a TypeCheck, ahead of its access.
func TestExecuteOnlyOfDictionary(t *testing.T) {
	b := newBench(t)
	d := b.dict(1)
	for access := range 4 {
		b.with(d, access)
		b.refuses(api.TypeCheck, "executeonly", d)
		b.refuses(api.TypeCheck, "executeonly", run(d))
	}
}

// P10.1: one object after another of the same string: each has its own access.
func TestWhoseAccess(t *testing.T) {
	b := newBench(t)
	s := b.text("5555")
	barred := b.with(s, api.NoAccess)
	b.tells(barred, "noaccess", s)
	b.tells(whole(5555), "cvi", s)
	b.refuses(api.InvalidAccess, "cvi", barred)
	b.tells(yes, "rcheck", s)
	b.tells(no, "rcheck", barred)
	b.tells(yes, "wcheck", s)
	b.tells(no, "wcheck", barred)
	b.gives(b.part(s, 0, 1), "cvs", whole(6), s)
	b.refuses(api.InvalidAccess, "cvs", whole(7), barred)
	b.checkText(s, "6555")
}

// P10.1, chapter 5: a dictionary's access is gone back behind.
func TestBarGoneBack(t *testing.T) {
	b := newBench(t)
	d := b.dict(1)
	m := b.s.Mark()
	b.gives(d, "readonly", d)
	b.gives(d, "noaccess", d)
	b.refuses(api.InvalidAccess, "readonly", d)
	b.fine(b.s.Back(m))
	b.tells(yes, "wcheck", d)
	b.gives(d, "readonly", d)
}

// P10.1: rcheck and wcheck, of each access, and of those that are none.
func TestChecks(t *testing.T) {
	b := newBench(t)
	s, a, d := b.text("ab"), b.list(null, null), b.dict(1)
	for access := -1; access <= 5; access++ {
		read, write := truth(access == 0 || access == 1), truth(access == 0)
		for _, o := range []api.Obj{s, a, run(s), run(a), b.part(s, 1, 0), b.part(a, 1, 1), b.text(""), b.list()} {
			o.Access = access
			b.tells(read, "rcheck", o)
			b.tells(write, "wcheck", o)
		}
		if access < 0 || access > api.NoAccess {
			continue
		}
		b.with(d, access)
		for told := range 4 {
			o := d
			o.Access = told
			b.tells(read, "rcheck", o)
			b.tells(write, "wcheck", run(o))
		}
	}
}

// P10.1: what is read may be Unlimited or ReadOnly, what is written Unlimited alone.
func TestAccess(t *testing.T) {
	b := newBench(t)
	number, word, room := b.text("12"), b.text("ab"), b.text("####")
	for access := -1; access <= 5; access++ {
		mayRead, mayWrite := access == api.Unlimited || access == api.ReadOnly, access == api.Unlimited
		for _, c := range []struct {
			allowed bool
			name    string
			args    []api.Obj
		}{
			{mayRead, "cvi", []api.Obj{b.with(number, access)}},
			{mayRead, "cvr", []api.Obj{b.with(number, access)}},
			{mayRead, "cvn", []api.Obj{b.with(word, access)}},
			{mayWrite, "cvs", []api.Obj{whole(1), b.with(room, access)}},
			{mayWrite, "cvs", []api.Obj{name(""), b.with(room, access)}},
			{mayWrite, "cvrs", []api.Obj{whole(1), whole(2), b.with(room, access)}},
			{mayWrite, "cvrs", []api.Obj{whole(1), whole(10), b.with(room, access)}},
		} {
			if !c.allowed {
				b.refuses(api.InvalidAccess, c.name, c.args...)
				continue
			}
			if _, e := conv.Do(b.s, c.name, c.args...); e != api.OK {
				t.Errorf("%s of %+v: error %d", c.name, c.args, e)
			}
		}
	}
}
