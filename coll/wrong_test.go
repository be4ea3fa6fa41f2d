package coll_test

import (
	"math"
	"slices"
	"strings"
	"testing"

	"mezzotint/api"
	"mezzotint/coll"
)

// takes are the operators, by the operands that each takes: a an Array, s a String, d a Dict, n a Name, i an Int, k
// what may be a key, o any object; and by what is read (r) and written (w) of them.
var takes = []struct {
	names     []string
	kinds, do string
}{
	{[]string{"string", "array", "dict"}, "i", "-"},
	{[]string{"length", "aload"}, "a", "r"},
	{[]string{"length"}, "s", "r"},
	{[]string{"length", "maxlength"}, "d", "r"},
	{[]string{"length"}, "n", "-"},
	{[]string{"get"}, "ai", "r-"},
	{[]string{"get"}, "si", "r-"},
	{[]string{"get", "known"}, "dk", "r-"},
	{[]string{"undef"}, "dk", "w-"},
	{[]string{"copy"}, "aa", "rw"},
	{[]string{"copy"}, "ss", "rw"},
	{[]string{"copy"}, "dd", "rw"},
	{[]string{"gt", "ge", "lt", "le", "search", "anchorsearch"}, "ss", "rr"},
	{[]string{"eq", "ne"}, "ss", "rr"},
	{[]string{"eq", "ne"}, "so", "r-"},
	{[]string{"eq", "ne"}, "os", "-r"},
	{[]string{"eq", "ne"}, "oo", "--"},
	{[]string{"put"}, "aio", "w--"},
	{[]string{"put"}, "sii", "w--"},
	{[]string{"put"}, "dko", "w--"},
	{[]string{"getinterval"}, "aii", "r--"},
	{[]string{"getinterval"}, "sii", "r--"},
	{[]string{"putinterval"}, "aia", "w-r"},
	{[]string{"putinterval"}, "sis", "w-r"},
}

// isOf tells whether o is of what takes has a letter for.
func isOf(o api.Obj, letter byte) bool {
	switch letter {
	case 'a':
		return o.Kind == api.Array
	case 's':
		return o.Kind == api.String
	case 'd':
		return o.Kind == api.Dict
	case 'n':
		return o.Kind == api.Name
	case 'i':
		return o.Kind == api.Int && -1<<31 <= o.N && o.N < 1<<31
	case 'k':
		return o.Kind != api.Null
	}
	return true
}

// taken answers what the operator does with these operands (what takes has), and whether it takes them.
func taken(name string, args []api.Obj) (do string, ok bool) {
	for _, row := range takes {
		if !slices.Contains(row.names, name) || len(row.kinds) != len(args) {
			continue
		}
		all := true
		for i, o := range args {
			all = all && isOf(o, row.kinds[i])
		}
		if all {
			return row.do, true
		}
	}
	return "", false
}

// all calls f with all lists of n of these objects.
func all(n int, objects []api.Obj, f func(args []api.Obj)) {
	args := make([]api.Obj, n)
	var place func(i int)
	place = func(i int) {
		if i == n {
			f(args)
			return
		}
		for _, o := range objects {
			args[i] = o
			place(i + 1)
		}
	}
	place(0)
}

// kinds answers objects of every Kind and of Kinds that are none, of numbers those that are just none too.
func (b bench) kinds(access int) []api.Obj {
	b.Helper()
	return []api.Obj{
		null, whole(0), whole(-1), whole(api.MaxInt), whole(api.MaxInt + 1), whole(api.MinInt - 1), whole(math.MinInt), part(0), no, mark, name("x"),
		b.with(b.text("abcdefgh"), access), b.with(b.list(null, null), access), b.with(b.dict(1), access),
		{Kind: api.Op, Name: "get"}, {Kind: api.Save, N: 1}, {Kind: -3}, {Kind: 11, N: 1}, {Kind: math.MaxInt},
	}
}

// P9.1: TypeCheck of all operands that an operator does not take, ahead of their access and of all else; of the
// others InvalidAccess, ahead of all else.
func TestTypeCheckAndInvalidAccess(t *testing.T) {
	for access := -1; access <= 5; access++ {
		b := newBench(t, 1000)
		objects := b.kinds(api.Unlimited)
		if api.Unlimited <= access && access <= api.NoAccess {
			objects = b.kinds(access)
		} else { // which a String or an Array may tell, though it is none
			objects[11].Access, objects[12].Access = access, access
		}
		for n, names := range operators {
			for _, name := range names {
				all(n, objects, func(args []api.Obj) {
					b.enough()
					do, ok := taken(name, args)
					switch {
					case !ok:
						b.refuses(api.TypeCheck, name, args...)
					case b.barred(do, args):
						b.refuses(api.InvalidAccess, name, args...)
					default:
						s := b.s.Copy()
						if _, e := coll.Do(s, name, args...); e == api.TypeCheck || e == api.InvalidAccess || e == api.ErrArg {
							t.Errorf("%q of %+v: error %d", name, args, e)
						}
					}
				})
			}
		}
	}
}

// barred tells whether an operand's access is too little for what is done with it.
func (b bench) barred(do string, args []api.Obj) bool {
	for i, o := range args {
		access := o.Access
		if o.Kind == api.Dict {
			access = b.s.Access(o)
		}
		mayRead := access == api.Unlimited || access == api.ReadOnly
		if do[i] == 'r' && !mayRead || do[i] == 'w' && access != api.Unlimited {
			return true
		}
	}
	return false
}

// P9.1: an access that is too little, in one place alone, ahead of what else is wrong.
func TestInvalidAccessOfOne(t *testing.T) {
	b := newBench(t, 2000)
	a, s, long := b.list(null), b.text("a"), b.text(strings.Repeat("k", 128))
	d, full := b.dict(2, whole(0), null), b.dict(1, whole(0), null)
	for access := api.ReadOnly; access <= api.NoAccess; access++ {
		la, ls, ld, lfull := b.with(a, access), b.with(s, access), b.with(b.dict(2, whole(0), null), access), b.with(full, access)
		for _, i := range []int{0, 1, -1} {
			b.refuses(api.InvalidAccess, "put", la, whole(i), null)
			b.refuses(api.InvalidAccess, "put", ls, whole(i), whole(256))
			b.refuses(api.InvalidAccess, "putinterval", la, whole(i), a)
			b.refuses(api.InvalidAccess, "putinterval", ls, whole(i), s)
			b.refuses(api.InvalidAccess, "put", ld, whole(i), null)
			b.refuses(api.InvalidAccess, "put", lfull, whole(i), null)
			b.refuses(api.InvalidAccess, "undef", ld, whole(i))
		}
		b.refuses(api.InvalidAccess, "put", ld, long, null)
		b.refuses(api.TypeCheck, "put", ld, null, null)
		b.refuses(api.InvalidAccess, "undef", ld, long)
		b.refuses(api.TypeCheck, "undef", ld, null)
		b.refuses(api.InvalidAccess, "copy", b.list(null, null), la)
		b.refuses(api.InvalidAccess, "copy", b.text("ab"), ls)
		b.refuses(api.InvalidAccess, "copy", d, ld)
		if access == api.ReadOnly {
			continue
		}
		for _, i := range []int{0, 1, -1} {
			b.refuses(api.InvalidAccess, "get", la, whole(i))
			b.refuses(api.InvalidAccess, "get", ls, whole(i))
			b.refuses(api.InvalidAccess, "get", ld, whole(i))
			b.refuses(api.InvalidAccess, "known", ld, whole(i))
			b.refuses(api.InvalidAccess, "getinterval", la, whole(i), whole(i))
			b.refuses(api.InvalidAccess, "getinterval", ls, whole(i), whole(i))
			b.refuses(api.InvalidAccess, "putinterval", a, whole(i), la)
			b.refuses(api.InvalidAccess, "putinterval", s, whole(i), ls)
		}
		for _, name := range []string{"get", "known"} {
			b.refuses(api.InvalidAccess, name, ld, long)
			b.refuses(api.TypeCheck, name, ld, null)
		}
		b.refuses(api.InvalidAccess, "copy", la, b.list())
		b.refuses(api.InvalidAccess, "copy", ls, b.text(""))
		b.refuses(api.InvalidAccess, "copy", ld, d)
		for _, name := range []string{"gt", "ge", "lt", "le", "search", "anchorsearch", "eq", "ne"} {
			b.refuses(api.InvalidAccess, name, ls, s)
			b.refuses(api.InvalidAccess, name, s, ls)
		}
	}
}

// P9.1: a dictionary's access is its own, whatever the object has; a string's, an array's is the object's.
func TestWhoseAccess(t *testing.T) {
	b := newBench(t, 1000)
	d := b.dict(2)
	told := d
	told.Access = api.NoAccess
	b.gives(nil, "put", told, whole(1), mark)
	b.gives([]api.Obj{mark}, "get", told, whole(1))
	b.gives(wholes(1, 1), "length", told)
	b.with(d, api.ReadOnly)
	b.refuses(api.InvalidAccess, "put", d, whole(1), null)
	b.gives([]api.Obj{mark}, "get", d, whole(1))
	b.gives([]api.Obj{yes}, "known", d, whole(1))
	b.with(d, api.ExecuteOnly)
	b.refuses(api.InvalidAccess, "get", d, whole(1))
	b.refuses(api.InvalidAccess, "maxlength", d)
	b.with(d, api.Unlimited)
	b.gives(nil, "undef", told, whole(1))
	a, s := b.list(null, null), b.text("ab")
	b.gives([]api.Obj{b.with(b.part(a, 1, 1), api.ReadOnly)}, "getinterval", b.with(a, api.ReadOnly), whole(1), whole(1))
	b.refuses(api.InvalidAccess, "put", b.with(a, api.ReadOnly), whole(0), mark)
	b.gives(nil, "put", a, whole(0), mark)
	b.refuses(api.InvalidAccess, "put", b.with(s, api.NoAccess), whole(0), whole(98))
	b.gives(nil, "put", s, whole(0), whole(98))
	b.checkItems(a, mark, null)
	b.checkText(s, "bb")
}

// invalid answers objects that are not valid: of no Ref, of another Kind's, of none yet, and beyond the ends.
func (b bench) invalid() (list []api.Obj) {
	b.Helper()
	s, a, d := b.text("ab"), b.list(null, null), b.dict(1)
	refs := []int{0, -1, s.Ref, a.Ref, d.Ref, d.Ref + 1, math.MaxInt, math.MinInt}
	lies := [][2]int{{0, 0}, {0, 2}, {0, 3}, {1, 2}, {2, 1}, {3, 0}, {-1, 1}, {-1, 2}, {1, -1}, {0, -1}, {math.MaxInt, 1}, {1, math.MaxInt}, {math.MaxInt, math.MaxInt}, {math.MinInt, 1}}
	for _, kind := range []int{api.String, api.Array, api.Dict} {
		for _, ref := range refs {
			for _, l := range lies {
				if o := (api.Obj{Kind: kind, Ref: ref, From: l[0], Len: l[1]}); !b.s.Valid(o) {
					list = append(list, o)
				}
			}
		}
	}
	return list
}

// P9.1: ErrArg of what is not valid, in every place, whatever the other operands are; it goes ahead of all errors.
func TestErrArgOfInvalid(t *testing.T) {
	b := newBench(t, 1000)
	others := b.kinds(api.NoAccess)
	for _, wrong := range b.invalid() {
		b.enough()
		b.refuses(api.ErrArg, "length", wrong)
		for n, names := range operators {
			for _, name := range names {
				for _, o := range others {
					for i := range n {
						args := slices.Repeat([]api.Obj{o}, n)
						args[i] = wrong
						if e := b.errno(name, args...); e != api.ErrArg {
							t.Errorf("%q of %+v: error %d", name, args, e)
						}
					}
				}
			}
		}
	}
	a, s, d := b.list(null, null), b.text("ab"), b.dict(3)
	for _, wrong := range b.invalid() {
		b.enough()
		b.refuses(api.ErrArg, "put", a, whole(0), wrong)
		b.refuses(api.ErrArg, "put", a, whole(9), wrong)
		b.refuses(api.ErrArg, "put", s, whole(0), wrong)
		b.refuses(api.ErrArg, "put", d, whole(0), wrong)
		b.refuses(api.ErrArg, "put", d, wrong, whole(0))
		b.refuses(api.ErrArg, "putinterval", a, whole(0), wrong)
		b.refuses(api.ErrArg, "get", d, wrong)
		b.refuses(api.ErrArg, "known", d, wrong)
		b.refuses(api.ErrArg, "undef", d, wrong)
		b.refuses(api.ErrArg, "eq", wrong, wrong)
		b.refuses(api.ErrArg, "ne", wrong, whole(1))
		b.refuses(api.ErrArg, "copy", wrong, a)
	}
}

func (b bench) errno(name string, args ...api.Obj) api.Errno {
	b.Helper()
	list, e := coll.Do(b.s, name, args...)
	if e != api.OK && list != nil {
		b.Errorf("%q of %+v: %+v beside an error", name, args, list)
	}
	return e
}

// P9.1: what was gone back behind is not valid any more.
func TestErrArgOfWhatIsGone(t *testing.T) {
	b := newBench(t, 1000)
	old := b.list(null)
	m := b.s.Mark()
	a, s, d := b.list(null), b.text("a"), b.dict(1)
	b.fine(b.s.Back(m))
	for _, o := range []api.Obj{a, s, d} {
		b.refuses(api.ErrArg, "length", o)
		b.refuses(api.ErrArg, "put", old, whole(0), o)
		b.refuses(api.ErrArg, "eq", o, o)
	}
}

// P9.1: ErrArg of too few and too many operands, whatever they are, of names that are no operators, and without a
// store.
func TestErrArg(t *testing.T) {
	b := newBench(t, 1000)
	for _, o := range b.kinds(api.Unlimited) {
		for n := range 6 {
			args := slices.Repeat([]api.Obj{o}, n)
			for _, name := range noOperators {
				b.refuses(api.ErrArg, name, args...)
			}
			for right, names := range operators {
				for _, name := range names {
					if n != right {
						b.refuses(api.ErrArg, name, args...)
					}
					if list, e := coll.Do(nil, name, args...); e != api.ErrArg || list != nil {
						t.Errorf("%q of %+v without a store: %+v, error %d", name, args, list, e)
					}
				}
			}
		}
	}
	b.refuses(api.ErrArg, "get", []api.Obj{}...)
	b.refuses(api.ErrArg, "length", nil...)
	b.refuses(api.ErrArg, "eq", slices.Repeat([]api.Obj{null}, 5000)...)
}
