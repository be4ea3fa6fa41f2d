package stack_test

import (
	"math"
	"testing"

	"mezzotint/api"
	"mezzotint/stack"
)

// The Kinds that there are.
var kinds = []int{api.Null, api.Int, api.Real, api.Bool, api.Mark, api.Name, api.String, api.Array, api.Dict, api.Op, api.Save}

// P7.3: which Kinds each of the kinds that may be asked for takes, executable or not.
func TestNeedOfEach(t *testing.T) {
	type taken struct{ plain, exec bool }
	both := taken{plain: true, exec: true}
	table := map[int]map[int]taken{
		stack.Number:   {api.Int: both, api.Real: both},
		stack.Sequence: {api.String: both, api.Array: both},
		stack.Proc:     {api.Array: {exec: true}},
		stack.Any:      {},
	}
	for _, kind := range kinds {
		table[kind] = map[int]taken{kind: both}
		table[stack.Any][kind] = both
	}
	for asked, takes := range table {
		for _, kind := range kinds {
			for _, o := range []api.Obj{
				{Kind: kind},
				{Kind: kind, Exec: true},
				{Kind: kind, Access: api.NoAccess, N: 7, Name: "a", Ref: 7, From: 6, Len: 8},
				{Kind: kind, Exec: true, Access: api.ReadOnly, N: -7, Ref: 6, From: 7, Len: 7},
			} {
				want := api.TypeCheck
				if (o.Exec && takes[kind].exec) || (!o.Exec && takes[kind].plain) {
					want = api.OK
				}
				if e := of(t, 1, o).Need(asked); e != want {
					t.Errorf("Need(%d) of %+v: %d, not %d", asked, o, e, want)
				}
			}
		}
	}
}

// P7.3: kinds that nobody has, and objects whose Kind is none: what is asked is not mistaken for what is there.
func TestNeedOfNoKind(t *testing.T) {
	for _, asked := range []int{-5, 11, math.MaxInt, math.MinInt} {
		for _, kind := range kinds {
			checkErrno(t, "Need", of(t, 1, api.Obj{Kind: kind, Exec: true}).Need(asked), api.TypeCheck)
		}
	}
	for _, asked := range []int{stack.Number, stack.Sequence, stack.Proc} {
		for _, kind := range []int{stack.Number, stack.Any, stack.Sequence, stack.Proc, -5, 11} {
			checkErrno(t, "Need", of(t, 1, api.Obj{Kind: kind, Exec: true}).Need(asked), api.TypeCheck)
		}
	}
	checkErrno(t, "Need of Any", of(t, 1, api.Obj{Kind: 11}).Need(stack.Any), api.OK)
	checkErrno(t, "Need of Any", of(t, 1, api.Obj{Kind: stack.Number}).Need(stack.Any), api.OK)
}

// P7.3: the last one of kinds is the top's, the one ahead of it that of the one below, and so on; what lies lower
// is no matter.
func TestNeedOfSeveral(t *testing.T) {
	list := []api.Obj{mark, {Kind: api.Array, Exec: true}, {Kind: api.String}, {Kind: api.Real}, {Kind: api.Dict}}
	s := of(t, 5, list...)
	right := []int{api.Mark, stack.Proc, stack.Sequence, stack.Number, stack.Any}
	for from := range len(right) + 1 {
		checkErrno(t, "Need", s.Need(right[from:]...), api.OK)
	}
	for wrong := range len(right) {
		asked := append([]int(nil), right...)
		asked[wrong] = api.Bool
		for from := range len(asked) + 1 {
			want := api.TypeCheck
			if from > wrong {
				want = api.OK
			}
			if e := s.Need(asked[from:]...); e != want {
				t.Errorf("Need(%v): %d, not %d", asked[from:], e, want)
			}
		}
	}
	checkErrno(t, "Need, from the wrong end", s.Need(stack.Any, stack.Number), api.TypeCheck)
	checkAll(t, s, list...)
}

// P7.3: none, just as many as there are, and more: that there are fewer is told ahead of what they are.
func TestNeedOfFewer(t *testing.T) {
	for had := range 5 {
		s := of(t, 4, upTo(had)...)
		for n := range 8 {
			var fine, wrong []int
			for range n {
				fine, wrong = append(fine, stack.Any), append(wrong, api.Dict)
			}
			switch {
			case n > had:
				checkErrno(t, "Need of more", s.Need(fine...), under)
				checkErrno(t, "Need of more", s.Need(wrong...), under)
			case n > 0:
				checkErrno(t, "Need", s.Need(fine...), api.OK)
				checkErrno(t, "Need of others", s.Need(wrong...), api.TypeCheck)
			default:
				checkErrno(t, "Need of none", s.Need(), api.OK)
			}
		}
		checkAll(t, s, upTo(had)...)
	}
}

// The numbers of the kinds that only Need knows are the chapter's.
func TestKindNumbers(t *testing.T) {
	if stack.Number != -1 || stack.Any != -2 || stack.Sequence != -3 || stack.Proc != -4 {
		t.Error(stack.Number, stack.Any, stack.Sequence, stack.Proc)
	}
}
