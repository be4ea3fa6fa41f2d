package conv_test

import (
	"math"
	"slices"
	"strings"
	"testing"

	"mezzotint/api"
	"mezzotint/conv"
)

// kinds answers objects of every Kind and of Kinds that are none, of numbers those that are just none too.
func (b *bench) kinds(access int) []api.Obj {
	b.Helper()
	return []api.Obj{
		null, whole(2), whole(10), whole(-1), whole(api.MaxInt), whole(api.MaxInt + 1), whole(math.MinInt), part(0), part(api.MaxFix + 1), yes, no, {Kind: api.Bool, N: 2}, mark, name("5"), name(""),
		b.with(b.text("12345678"), access), b.with(b.text("abcdefgh"), access), b.with(b.text(""), access), b.with(b.list(null, null), access), b.with(b.dict(1), access),
		op, {Kind: api.Op, Name: "5"}, kept, {Kind: -1}, {Kind: -6, Name: "5"}, {Kind: 11, N: 1}, {Kind: math.MaxInt}, {Kind: math.MinInt},
	}
}

// takes answers whether the operator takes operands of these Kinds.
func takes(name string, args []api.Obj) bool {
	o := args[0]
	held := o.Kind == api.String || o.Kind == api.Array || o.Kind == api.Dict
	switch name {
	case "type":
		return 0 <= o.Kind && o.Kind <= 10
	case "cvi", "cvr":
		fits := -1<<31 <= o.N && o.N < 1<<31
		return o.Kind == api.String || (o.Kind == api.Int || o.Kind == api.Real) && fits
	case "cvn":
		return o.Kind == api.String
	case "readonly", "noaccess", "rcheck", "wcheck":
		return held
	case "executeonly":
		return held && o.Kind != api.Dict
	case "cvs":
		return args[1].Kind == api.String
	case "cvrs":
		base := args[1].Kind == api.Int && -1<<31 <= args[1].N && args[1].N < 1<<31
		return (o.Kind == api.Int || o.Kind == api.Real) && base && args[2].Kind == api.String
	}
	return true
}

// barred answers whether operands that are taken are kept from what the operator does with them.
func (b *bench) barred(name string, args []api.Obj) bool {
	o := args[len(args)-1]
	access := o.Access
	if o.Kind == api.Dict {
		access = b.s.Access(o)
	}
	switch name {
	case "cvi", "cvr", "cvn":
		return o.Kind == api.String && access != api.Unlimited && access != api.ReadOnly
	case "cvs", "cvrs":
		return access != api.Unlimited
	case "readonly", "executeonly":
		return access == api.NoAccess
	}
	return false
}

// all calls f with all lists of n of these objects.
func all(n int, objects []api.Obj, f func(args []api.Obj)) {
	args := make([]api.Obj, n)
	var place func(i int)
	place = func(i int) {
		if i == n {
			f(args)
			return
		}
		for _, o := range objects {
			args[i] = o
			place(i + 1)
		}
	}
	place(0)
}

// P10.1: TypeCheck of all operands whose Kinds an operator does not take, ahead of their access and of all else; of the
// others InvalidAccess, ahead of all else.
func TestTypeCheckAndInvalidAccess(t *testing.T) {
	for access := api.Unlimited; access <= api.NoAccess; access++ {
		b := newBench(t)
		objects := b.kinds(access)
		for n, names := range operators {
			for _, name := range names {
				all(n, objects, func(args []api.Obj) {
					b.enough()
					switch {
					case !takes(name, args):
						b.refuses(api.TypeCheck, name, args...)
					case b.barred(name, args):
						b.refuses(api.InvalidAccess, name, args...)
					default:
						if _, e := conv.Do(b.s.Copy(), name, args...); e == api.InvalidAccess || e == api.ErrArg {
							t.Errorf("%q of %+v: error %d", name, args, e)
						}
					}
				})
			}
		}
	}
}

// P10.1: InvalidAccess ahead of what a string that may not be read has, of a base that is none, of an Int or a Real that
// is no number, and of room that is too little.
func TestInvalidAccessAheadOfOthers(t *testing.T) {
	b := newBench(t)
	for access := api.ReadOnly; access <= api.NoAccess; access++ {
		empty := b.with(b.text(""), access)
		b.refuses(api.InvalidAccess, "cvs", whole(5), empty)
		for _, base := range []int{1, 2, 10, 37} {
			for _, o := range []api.Obj{whole(5), whole(api.MaxInt + 1), part(api.MaxFix + 1)} {
				b.refuses(api.InvalidAccess, "cvrs", o, whole(base), empty)
			}
		}
		b.refuses(api.TypeCheck, "cvrs", whole(5), whole(api.MaxInt+1), empty)
		b.refuses(api.TypeCheck, "cvrs", yes, whole(1), empty)
		if access == api.ReadOnly {
			continue
		}
		for _, text := range []string{"x", "", "99999999999", strings.Repeat("n", 128), "40000"} {
			for _, op := range []string{"cvi", "cvr", "cvn"} {
				b.refuses(api.InvalidAccess, op, b.with(b.text(text), access))
			}
		}
	}
}

// invalid answers objects that are not valid: of no Ref, of another Kind's, of none yet, and beyond the ends.
func (b *bench) invalid() (list []api.Obj) {
	b.Helper()
	s, a, d := b.text("ab"), b.list(null, null), b.dict(1)
	refs := []int{0, -1, s.Ref, a.Ref, d.Ref, d.Ref + 1, math.MaxInt, math.MinInt}
	lies := [][2]int{{0, 0}, {0, 2}, {0, 3}, {1, 2}, {3, 0}, {-1, 1}, {-1, 2}, {1, -1}, {0, -1}, {math.MaxInt, 1}, {1, math.MaxInt}, {math.MaxInt, math.MaxInt}, {math.MinInt, 1}}
	for _, kind := range []int{api.String, api.Array, api.Dict} {
		for _, ref := range refs {
			for _, l := range lies {
				if o := (api.Obj{Kind: kind, Ref: ref, From: l[0], Len: l[1]}); !b.s.Valid(o) {
					list = append(list, o)
				}
			}
		}
	}
	return list
}

// P10.1: ErrArg of what is not valid, in every place, whatever the other operands are; it goes ahead of all errors.
func TestErrArgOfInvalid(t *testing.T) {
	b := newBench(t)
	room := b.text("####")
	others := append(b.kinds(api.NoAccess), room)
	// Nothing is made behind this, as an object that tells of nothing yet would be valid then.
	for _, wrong := range b.invalid() {
		b.enough()
		for n, names := range operators {
			for _, name := range names {
				for _, o := range others {
					for i := range n {
						args := slices.Repeat([]api.Obj{o}, n)
						args[i] = wrong
						if list, e := conv.Do(b.s, name, args...); e != api.ErrArg || list != nil {
							t.Errorf("%q of %+v: %+v, error %d", name, args, list, e)
						}
					}
				}
			}
		}
		b.refuses(api.ErrArg, "cvs", wrong, room)
		b.refuses(api.ErrArg, "cvrs", wrong, whole(2), room)
	}
}

// P10.1: what was gone back behind is not valid any more.
func TestErrArgOfWhatIsGone(t *testing.T) {
	b := newBench(t)
	room := b.text("####################")
	m := b.s.Mark()
	gone := []api.Obj{b.text("5"), b.list(null), b.dict(1)}
	b.fine(b.s.Back(m))
	for _, o := range gone {
		for _, name := range operators[1] {
			b.refuses(api.ErrArg, name, o)
		}
		b.refuses(api.ErrArg, "cvs", o, room)
		b.refuses(api.ErrArg, "cvs", whole(5), o)
		if text := conv.Text(b.s, o); text != nil {
			t.Errorf("Text of %+v: %q", o, text)
		}
	}
}

// P10.1: ErrArg of too few and too many operands, whatever they are, of names that are no operators, and without a
// store.
func TestErrArg(t *testing.T) {
	b := newBench(t)
	for _, o := range b.kinds(api.Unlimited) {
		for n := range 6 {
			args := slices.Repeat([]api.Obj{o}, n)
			for _, name := range noOperators {
				b.refuses(api.ErrArg, name, args...)
			}
			for right, names := range operators {
				for _, name := range names {
					if n != right {
						b.refuses(api.ErrArg, name, args...)
					}
					if list, e := conv.Do(nil, name, args...); e != api.ErrArg || list != nil {
						t.Errorf("%q of %+v without a store: %+v, error %d", name, args, list, e)
					}
				}
			}
		}
	}
	b.refuses(api.ErrArg, "type", []api.Obj{}...)
	b.refuses(api.ErrArg, "cvs", nil...)
	b.refuses(api.ErrArg, "cvrs", slices.Repeat([]api.Obj{null}, 5000)...)
}
