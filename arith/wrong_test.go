package arith_test

import (
	"math"
	"slices"
	"testing"

	"mezzotint/api"
	"mezzotint/arith"
)

var noOperators = []string{
	"", " ", "Add", "ADD", "add ", " add", "ad", "addd", "add\x00", "\x00", "\xff", "Not", "nott", "sine",
	"pop", "dup", "exch", "copy", "eq", "ne", "get", "put", "length", "cvi", "cvr", "cvs", "exp", "ln", "log", "atan", "rand", "exec", "true", "false", "/add",
}

// misfits are numbers that are beyond the Ints and the Reals, from the nearest to the ends of int.
var misfits = []int{low - 1, top + 1, low - one, top + one, -1 << 32, 1 << 32, 1<<32 + 1, 1 << 47, 1 << 48, math.MinInt, math.MinInt + 1, math.MaxInt - 1, math.MaxInt}

// strangers are neither numbers nor truths, of every Kind and of Kinds that are none.
func strangers() (list []api.Obj) {
	for _, kind := range []int{math.MinInt, -4, -3, -2, -1, api.Null, api.Mark, api.Name, api.String, api.Array, api.Dict, api.Op, api.Save, api.Save + 1, 1 << 32, math.MaxInt} {
		list = append(list, api.Obj{Kind: kind}, api.Obj{Kind: kind, N: 1}, api.Obj{Kind: kind, Exec: true, N: 1, Name: "add", Ref: 1})
	}
	for _, n := range misfits {
		list = append(list, whole(n), part(n))
	}
	for _, n := range append([]int{-1, 2, 3, one, low, top, -65535, 256}, misfits...) {
		list = append(list, api.Obj{Kind: api.Bool, N: n})
	}
	return list
}

// takes are the operators, by the objects that each takes.
var takes = []struct {
	names     []string
	good, bad []api.Obj
}{
	{
		names: []string{"neg", "abs", "ceiling", "floor", "round", "truncate", "sqrt", "sin", "cos", "add", "sub", "mul", "div", "gt", "ge", "lt", "le"},
		good:  []api.Obj{whole(1), whole(0), whole(top), whole(low), part(one), part(0), part(top), part(low)},
		bad:   []api.Obj{yes, no},
	},
	{
		names: []string{"idiv", "mod", "bitshift"},
		good:  []api.Obj{whole(1), whole(0), whole(top), whole(low), whole(-1)},
		bad:   []api.Obj{yes, no, part(0), part(one), part(-half), part(top), part(low)},
	},
	{
		names: []string{"and", "or", "xor", "not"},
		good:  []api.Obj{whole(1), whole(0), whole(top), whole(low), whole(-1), yes, no},
		bad:   []api.Obj{part(0), part(1), part(one), part(-half), part(top), part(low)},
	},
}

// P8.1: TypeCheck, in either place, ahead of all that is wrong with the numbers.
func TestTypeCheck(t *testing.T) {
	asked := 0
	for _, row := range takes {
		bad := slices.Concat(row.bad, strangers())
		for _, name := range row.names {
			asked++
			for _, wrong := range bad {
				enough(t)
				if slices.Contains(ones, name) {
					check(t, api.Obj{}, api.TypeCheck, name, wrong)
					continue
				}
				for _, right := range row.good {
					check(t, api.Obj{}, api.TypeCheck, name, wrong, right)
					check(t, api.Obj{}, api.TypeCheck, name, right, wrong)
				}
				check(t, api.Obj{}, api.TypeCheck, name, wrong, wrong)
			}
		}
	}
	if asked != len(ones)+len(twos) {
		t.Errorf("%d operators were asked", asked)
	}
}

// P8.1: a truth and an Int do not go together.
func TestTruthAndInt(t *testing.T) {
	for _, name := range []string{"and", "or", "xor"} {
		for _, truth := range []api.Obj{no, yes} {
			for _, n := range []int{low, -1, 0, 1, top} {
				check(t, api.Obj{}, api.TypeCheck, name, truth, whole(n))
				check(t, api.Obj{}, api.TypeCheck, name, whole(n), truth)
			}
		}
	}
}

// P8.1: ErrArg of too few and too many operands, whatever they are, and of names that are no operators.
func TestErrArg(t *testing.T) {
	for _, o := range slices.Concat([]api.Obj{whole(1), part(one), yes, whole(0)}, strangers()) {
		enough(t)
		for n := range 6 {
			args := slices.Repeat([]api.Obj{o}, n)
			for _, name := range noOperators {
				check(t, api.Obj{}, api.ErrArg, name, args...)
			}
			for _, name := range ones {
				if n != 1 {
					check(t, api.Obj{}, api.ErrArg, name, args...)
				}
			}
			for _, name := range twos {
				if n != 2 {
					check(t, api.Obj{}, api.ErrArg, name, args...)
				}
			}
		}
	}
	check(t, api.Obj{}, api.ErrArg, "add", []api.Obj{}...)
	check(t, api.Obj{}, api.ErrArg, "neg", nil...)
	check(t, api.Obj{}, api.ErrArg, "mul", slices.Repeat([]api.Obj{whole(1)}, 5000)...)
}

// P8.2: what is no number, in either place.
func TestNoNumber(t *testing.T) {
	for _, wrong := range append(strangers(), yes, no) {
		enough(t)
		for _, right := range []api.Obj{whole(0), whole(1), whole(wrong.N), part(0), part(one), part(wrong.N), yes, wrong} {
			checkLess(t, wrong, right, false, false)
			checkLess(t, right, wrong, false, false)
			checkEqual(t, wrong, right, false, false)
			checkEqual(t, right, wrong, false, false)
		}
	}
}

// dressed answers o with all that is no matter.
func dressed(o api.Obj) api.Obj {
	return api.Obj{Kind: o.Kind, N: o.N, Exec: true, Access: api.NoAccess, Name: "dressed", Ref: 3, From: -4, Len: 5}
}

// samplesOf answers operands of which the operator does something.
func samplesOf(name string) [][]api.Obj {
	list := []api.Obj{whole(3), whole(-4), whole(0), part(3*one + half), part(-one - half), yes, no, part(0), whole(low), part(top)}
	var samples [][]api.Obj
	for _, a := range list {
		if slices.Contains(ones, name) {
			samples = append(samples, []api.Obj{a})
			continue
		}
		for _, b := range list {
			samples = append(samples, []api.Obj{a, b})
		}
	}
	return samples
}

// P8.1: Exec, Access and the like of operands are no matter, and what is answered has none of them.
func TestAnswersArePlain(t *testing.T) {
	for _, name := range slices.Concat(ones, twos) {
		answered := 0
		for _, args := range samplesOf(name) {
			enough(t)
			want, wantErrno := arith.Do(name, args...)
			var covered []api.Obj
			for _, o := range args {
				covered = append(covered, dressed(o))
			}
			list, e := arith.Do(name, covered...)
			if e != wantErrno || !slices.Equal(list, want) {
				t.Errorf("%q of %+v: %+v %d, not %+v %d", name, covered, list, e, want, wantErrno)
			}
			if e != api.OK {
				continue
			}
			answered++
			if len(list) != 1 || list[0] != (api.Obj{Kind: list[0].Kind, N: list[0].N}) {
				t.Errorf("%q of %+v: %+v", name, covered, list)
			}
		}
		if answered == 0 {
			t.Errorf("%s: nothing was answered", name)
		}
	}
	for _, a := range []api.Obj{whole(1), part(one), part(2)} {
		for _, b := range []api.Obj{whole(1), part(one), whole(2)} {
			less, ok := arith.Less(a, b)
			checkLess(t, dressed(a), dressed(b), less, ok)
			equal, ok := arith.Equal(a, b)
			checkEqual(t, dressed(a), dressed(b), equal, ok)
		}
	}
}

// R4, R5: what is handed in is neither changed (spare room included) nor kept, and each answer is its own.
func TestMemory(t *testing.T) {
	for _, name := range slices.Concat(ones, twos) {
		for _, args := range samplesOf(name) {
			enough(t)
			room := slices.Concat(args, []api.Obj{whole(71), whole(72), whole(73)})
			before := slices.Clone(room)
			first, e := arith.Do(name, room[:len(args)]...)
			if !slices.Equal(room, before) {
				t.Errorf("%q of %+v: changed to %+v", name, args, room)
			}
			want := slices.Clone(first)
			for i := range room {
				room[i] = api.Obj{Kind: api.Name, Name: "spoilt"}
			}
			if !slices.Equal(first, want) {
				t.Errorf("%q of %+v: the answer has what was handed in", name, args)
			}
			spoilt := first[:cap(first)]
			for i := range spoilt {
				spoilt[i] = api.Obj{Kind: api.Name, Name: "spoilt"}
			}
			if second, again := arith.Do(name, args...); again != e || !slices.Equal(second, want) {
				t.Errorf("%q of %+v: at first %+v %d, then %+v %d", name, args, want, e, second, again)
			}
		}
	}
}
