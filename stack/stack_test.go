package stack_test

import (
	"math"
	"slices"
	"testing"

	"mezzotint/api"
	"mezzotint/stack"
)

// Errors that no call of the layer has of its own, so that one told by New is not mistaken for another.
const (
	over  = api.DictStackOverflow
	under = api.DictStackUnderflow
)

var (
	null = api.Obj{}
	mark = api.Obj{Kind: api.Mark}
)

func whole(n int) api.Obj { return api.Obj{Kind: api.Int, N: n} }

// wholes answers the Ints of these numbers.
func wholes(numbers ...int) (list []api.Obj) {
	for _, n := range numbers {
		list = append(list, whole(n))
	}
	return list
}

// upTo answers the Ints from 1 to n.
func upTo(n int) (list []api.Obj) {
	for i := range n {
		list = append(list, whole(i+1))
	}
	return list
}

// of answers a stack for at most so many, that has these.
func of(t *testing.T, most int, list ...api.Obj) *stack.Stack {
	t.Helper()
	s := stack.New(most, over, under)
	if s == nil {
		t.Fatal("no stack")
	}
	checkErrno(t, "Push", s.Push(list...), api.OK)
	checkAll(t, s, list...)
	return s
}

func checkErrno(t *testing.T, what string, e, want api.Errno) {
	t.Helper()
	if e != want {
		t.Errorf("%s: %d, not %d", what, e, want)
	}
}

// checkAll asks whether the stack has just these, by each call that looks at them.
func checkAll(t *testing.T, s *stack.Stack, want ...api.Obj) {
	t.Helper()
	if list := s.All(); !slices.Equal(list, want) {
		t.Errorf("All: %+v, not %+v", list, want)
	}
	if s.Len() != len(want) {
		t.Errorf("Len: %d, not %d", s.Len(), len(want))
	}
	for i := range want {
		if o, e := s.Top(len(want) - 1 - i); o != want[i] || e != api.OK {
			t.Errorf("Top(%d): %+v %d, not %+v", len(want)-1-i, o, e, want[i])
		}
	}
}

func checkPop(t *testing.T, s *stack.Stack, want api.Obj, wantErrno api.Errno) {
	t.Helper()
	if o, e := s.Pop(); o != want || e != wantErrno {
		t.Errorf("Pop: %+v %d, not %+v %d", o, e, want, wantErrno)
	}
}

func checkTake(t *testing.T, s *stack.Stack, n int, wantErrno api.Errno, want ...api.Obj) {
	t.Helper()
	if list, e := s.Take(n); !slices.Equal(list, want) || e != wantErrno {
		t.Errorf("Take(%d): %+v %d, not %+v %d", n, list, e, want, wantErrno)
	}
}

func checkTop(t *testing.T, s *stack.Stack, i int, want api.Obj, wantErrno api.Errno) {
	t.Helper()
	if o, e := s.Top(i); o != want || e != wantErrno {
		t.Errorf("Top(%d): %+v %d, not %+v %d", i, o, e, want, wantErrno)
	}
}

func checkToMark(t *testing.T, s *stack.Stack, want int, wantErrno api.Errno) {
	t.Helper()
	if n, e := s.ToMark(); n != want || e != wantErrno {
		t.Errorf("ToMark: %d %d, not %d %d", n, e, want, wantErrno)
	}
}

// P7.1: a new one is empty, and has no room if most is 0 or below.
func TestNew(t *testing.T) {
	for _, most := range []int{math.MinInt, -5, -1, 0} {
		s := of(t, most)
		checkErrno(t, "Push of none", s.Push(), api.OK)
		checkErrno(t, "Push", s.Push(whole(1)), over)
		checkErrno(t, "Push", s.Push(upTo(9)...), over)
		s.Reset(upTo(3))
		checkAll(t, s)
		checkPop(t, s, null, under)
		checkTake(t, s, 0, api.OK)
		checkTake(t, s, 1, under)
	}
	for _, most := range []int{1, api.MaxStack, math.MaxInt} {
		checkErrno(t, "Push", of(t, most).Push(whole(1)), api.OK)
	}
}

// P7.1: just as many as there may be, and one more; of several that do not all fit, none.
func TestPush(t *testing.T) {
	for most := range 7 {
		for had := range most + 1 {
			s := of(t, most, upTo(had)...)
			more := upTo(most + 1)[had:]
			for range 2 {
				checkErrno(t, "Push of one too many", s.Push(more...), over)
				checkErrno(t, "Push of many more", s.Push(upTo(3*most+5)...), over)
				checkAll(t, s, upTo(had)...)
			}
			checkErrno(t, "Push of none", s.Push(), api.OK)
			checkErrno(t, "Push of as many as there may be", s.Push(more[:most-had]...), api.OK)
			checkAll(t, s, upTo(most)...)
			checkErrno(t, "Push of none", s.Push(), api.OK)
			checkErrno(t, "Push of one more", s.Push(null), over)
			checkAll(t, s, upTo(most)...)
			if most > 0 {
				checkPop(t, s, whole(most), api.OK)
				checkErrno(t, "Push again", s.Push(mark), api.OK)
				checkErrno(t, "Push of one more", s.Push(mark), over)
				checkAll(t, s, append(upTo(most-1), mark)...)
			}
		}
	}
}

// P7.1: objects are kept as they are, with all their fields, sound or not.
func TestObjectsStay(t *testing.T) {
	list := []api.Obj{
		null, mark,
		{Kind: api.Name, Name: "a", Exec: true, Access: api.ReadOnly},
		{Kind: api.Array, Exec: true, Access: api.NoAccess, Ref: 3, From: 4, Len: 5},
		{Kind: -9, Access: -1, N: math.MinInt, Ref: -1, From: math.MaxInt, Len: -1},
	}
	s := of(t, 2*len(list), list...)
	checkTake(t, s, len(list), api.OK, list...)
	for _, o := range list {
		checkErrno(t, "Push", s.Push(o), api.OK)
		checkTop(t, s, 0, o, api.OK)
	}
	s.Reset(list)
	checkErrno(t, "Roll", s.Roll(len(list), len(list)), api.OK)
	checkAll(t, s, list...)
	for _, o := range slices.Backward(list) {
		checkPop(t, s, o, api.OK)
	}
}

// P7.1: the last one that came is the first that goes.
func TestPop(t *testing.T) {
	s := of(t, 5, upTo(5)...)
	for n := 5; n > 0; n-- {
		checkPop(t, s, whole(n), api.OK)
		checkAll(t, s, upTo(n-1)...)
	}
	for range 3 {
		checkPop(t, s, null, under)
		checkAll(t, s)
	}
	checkErrno(t, "Push", s.Push(whole(8)), api.OK)
	checkPop(t, s, whole(8), api.OK)
	checkPop(t, s, null, under)
}

// P7.1: of each number of objects, none, some, all and more.
func TestTake(t *testing.T) {
	for had := range 6 {
		for n := range had + 1 {
			s := of(t, 5, upTo(had)...)
			checkTake(t, s, n, api.OK, upTo(had)[had-n:]...)
			checkAll(t, s, upTo(had-n)...)
			checkErrno(t, "Push", s.Push(upTo(had)[had-n:]...), api.OK)
			checkAll(t, s, upTo(had)...)
		}
		s := of(t, 5, upTo(had)...)
		for _, n := range []int{had + 1, had + 2, 100, math.MaxInt} {
			checkTake(t, s, n, under)
		}
		for _, n := range []int{-1, -2, -had, math.MinInt} {
			if n < 0 {
				checkTake(t, s, n, api.RangeCheck)
			}
		}
		checkAll(t, s, upTo(had)...)
	}
}

// P7.1: places from the top on, and those that are not there.
func TestTopAndSwap(t *testing.T) {
	for had := range 5 {
		s := of(t, 5, upTo(had)...)
		for i := range had {
			checkTop(t, s, i, whole(had-i), api.OK)
			checkErrno(t, "Swap", s.Swap(i, mark), api.OK)
			want := upTo(had)
			want[had-1-i] = mark
			checkAll(t, s, want...)
			checkErrno(t, "Swap", s.Swap(i, whole(had-i)), api.OK)
			checkAll(t, s, upTo(had)...)
		}
		for _, i := range []int{had, had + 1, 99, math.MaxInt} {
			checkTop(t, s, i, null, under)
			checkErrno(t, "Swap", s.Swap(i, mark), under)
		}
		for _, i := range []int{-1, -2, -had - 1, math.MinInt} {
			checkTop(t, s, i, null, api.RangeCheck)
			checkErrno(t, "Swap", s.Swap(i, mark), api.RangeCheck)
		}
		checkAll(t, s, upTo(had)...)
	}
}

// P7.2: the document's example, and the same to the other side.
func TestExample(t *testing.T) {
	s := of(t, 3, wholes(1, 2, 3)...)
	checkErrno(t, "Roll", s.Roll(3, 1), api.OK)
	checkAll(t, s, wholes(3, 1, 2)...)
	checkErrno(t, "Roll", s.Roll(3, -1), api.OK)
	checkAll(t, s, wholes(1, 2, 3)...)
	checkErrno(t, "Roll", s.Roll(2, -1), api.OK)
	checkAll(t, s, wholes(1, 3, 2)...)
}

// rolled rolls a list by one at a time, as the document tells it.
func rolled(list []api.Obj, n, j int) []api.Obj {
	low, top := slices.Clone(list[:len(list)-n]), slices.Clone(list[len(list)-n:])
	for ; j > 0 && n > 0; j-- {
		top = append([]api.Obj{top[n-1]}, top[:n-1]...)
	}
	for ; j < 0 && n > 0; j++ {
		top = append(slices.Clone(top[1:]), top[0])
	}
	return append(low, top...)
}

// P7.2: of none, of one, of all; by 0, by more than n, to either side.
func TestRoll(t *testing.T) {
	for had := range 6 {
		for n := range had + 1 {
			for j := -13; j <= 13; j++ {
				s := of(t, 6, upTo(had)...)
				checkErrno(t, "Roll", s.Roll(n, j), api.OK)
				checkAll(t, s, rolled(upTo(had), n, j)...)
				if t.Failed() {
					t.Fatalf("of %d: Roll(%d, %d)", had, n, j)
				}
			}
		}
	}
}

// P7.2: numbers at their ends: j is taken modulo n.
func TestRollFar(t *testing.T) {
	for n := 1; n <= 7; n++ {
		for _, j := range []int{math.MaxInt, math.MaxInt - 1, math.MinInt, math.MinInt + 1, api.MaxInt, api.MinInt} {
			s := of(t, 9, upTo(9)...)
			checkErrno(t, "Roll", s.Roll(n, j), api.OK)
			checkAll(t, s, rolled(upTo(9), n, j%n)...)
		}
	}
	for _, j := range []int{math.MaxInt, math.MinInt} {
		checkErrno(t, "Roll of none", of(t, 2).Roll(0, j), api.OK)
	}
}

// P7.2: fewer than n, and n below 0, whatever j is: nothing is changed.
func TestRollRefused(t *testing.T) {
	for had := range 4 {
		s := of(t, 3, upTo(had)...)
		for _, j := range []int{0, 1, -1, math.MaxInt, math.MinInt} {
			for _, n := range []int{had + 1, 100, math.MaxInt} {
				checkErrno(t, "Roll", s.Roll(n, j), under)
			}
			for _, n := range []int{-1, -100, math.MinInt} {
				checkErrno(t, "Roll", s.Roll(n, j), api.RangeCheck)
			}
		}
		checkAll(t, s, upTo(had)...)
	}
}

// P7.2: with no Mark, with one at each place, with several.
func TestToMark(t *testing.T) {
	checkToMark(t, of(t, 9), 0, api.UnmatchedMark)
	for n := 1; n <= 5; n++ {
		s := of(t, 9, upTo(n)...)
		checkToMark(t, s, 0, api.UnmatchedMark)
		for i := range n {
			checkErrno(t, "Swap", s.Swap(i, mark), api.OK)
			checkToMark(t, s, i, api.OK)
			checkErrno(t, "Swap", s.Swap(i, null), api.OK)
		}
	}
	s := of(t, 9, mark, whole(1), mark, mark, whole(2), whole(3))
	checkToMark(t, s, 2, api.OK)
	checkTake(t, s, 3, api.OK, mark, whole(2), whole(3))
	checkToMark(t, s, 0, api.OK)
	checkPop(t, s, mark, api.OK)
	checkToMark(t, s, 1, api.OK)
	checkAll(t, s, mark, whole(1))
}

// P7.2: no other Kind is a Mark, and a Mark is one whatever else it has.
func TestToMarkOfKinds(t *testing.T) {
	for kind := -5; kind <= api.Save+1; kind++ {
		for _, o := range []api.Obj{{Kind: kind}, {Kind: kind, Exec: true, Access: api.NoAccess, N: api.Mark, Name: "mark", Ref: 4, From: 4, Len: 4}} {
			want, e := 0, api.UnmatchedMark
			if kind == api.Mark {
				want, e = 1, api.OK
			}
			checkToMark(t, of(t, 2, o, null), want, e)
		}
	}
}

// P7.2: with no object, with fewer, just most, and more; whatever was there is gone.
func TestReset(t *testing.T) {
	for most := range 5 {
		for had := range most + 1 {
			for n := range 2*most + 3 {
				s := of(t, most, upTo(had)...)
				list := upTo(n + 20)[20:]
				s.Reset(list)
				want := list[:min(n, most)]
				checkAll(t, s, want...)
				checkErrno(t, "Push of one too many", s.Push(upTo(most-len(want)+1)...), over)
				checkErrno(t, "Push", s.Push(upTo(most-len(want))...), api.OK)
				checkAll(t, s, slices.Concat(want, upTo(most-len(want)))...)
			}
		}
	}
	s := of(t, 3, upTo(2)...)
	s.Reset(nil)
	checkAll(t, s)
	checkPop(t, s, null, under)
	s.Reset([]api.Obj{})
	checkAll(t, s)
	s.Reset(s.All())
	checkAll(t, s)
}

// P7.4: a nil stack.
func TestNil(t *testing.T) {
	var s *stack.Stack
	for range 2 {
		checkErrno(t, "Push", s.Push(whole(1), null), api.ErrArg)
		checkErrno(t, "Push of none", s.Push(), api.ErrArg)
		checkPop(t, s, null, api.ErrArg)
		for _, n := range []int{0, 1, -1, math.MaxInt, math.MinInt} {
			checkTake(t, s, n, api.ErrArg)
			checkTop(t, s, n, null, api.ErrArg)
			checkErrno(t, "Swap", s.Swap(n, whole(1)), api.ErrArg)
			checkErrno(t, "Roll", s.Roll(n, 1), api.ErrArg)
			checkErrno(t, "Roll", s.Roll(n, -n), api.ErrArg)
		}
		checkToMark(t, s, 0, api.ErrArg)
		s.Reset(upTo(3))
		checkAll(t, s)
		checkErrno(t, "Need of none", s.Need(), api.ErrArg)
		checkErrno(t, "Need", s.Need(stack.Any), api.ErrArg)
	}
}

// P7.1: the errors are those that New was told, whatever they are. With OK for both, calls are refused no less.
func TestErrorsAreTold(t *testing.T) {
	for _, e := range []api.Errno{api.OK, api.StackOverflow, api.ErrLoop, api.TypeCheck, -1, 99} {
		s := stack.New(2, e, e+1)
		checkErrno(t, "Push", s.Push(upTo(3)...), e)
		checkAll(t, s)
		checkPop(t, s, null, e+1)

		s = stack.New(2, e+1, e)
		checkErrno(t, "Push", s.Push(upTo(3)...), e+1)
		checkPop(t, s, null, e)
		checkErrno(t, "Push", s.Push(whole(1)), api.OK)
		checkTake(t, s, 2, e)
		checkTop(t, s, 1, null, e)
		checkErrno(t, "Swap", s.Swap(1, mark), e)
		checkErrno(t, "Roll", s.Roll(2, 1), e)
		checkErrno(t, "Need", s.Need(stack.Proc, stack.Proc), e)
		checkTake(t, s, -1, api.RangeCheck)
		checkErrno(t, "Need", s.Need(stack.Proc), api.TypeCheck)
		checkToMark(t, s, 0, api.UnmatchedMark)
		checkAll(t, s, whole(1))
	}
}
