package stack_test

import (
	"slices"
	"testing"

	"mezzotint/api"
	"mezzotint/stack"
)

// spoil writes over all that can be reached from a list, spare room included.
func spoil(list []api.Obj) {
	list = list[:cap(list)]
	for i := range list {
		list[i] = api.Obj{Kind: api.Name, Name: "spoilt"}
	}
}

// P7.4, R4: what is handed in is not changed, spare room included.
func TestHandedInIsNotChanged(t *testing.T) {
	room := upTo(6)
	kinds := []int{stack.Number, stack.Any, 7, 8}
	s := of(t, 9)
	checkErrno(t, "Push", s.Push(room[:2]...), api.OK)
	checkErrno(t, "Push", s.Push(mark, mark), api.OK)
	s.Reset(room[:3])
	checkErrno(t, "Push", s.Push(null, mark), api.OK)
	checkErrno(t, "Need", s.Need(kinds[:2]...), api.TypeCheck)
	checkErrno(t, "Roll", s.Roll(4, 1), api.OK)
	checkErrno(t, "Swap", s.Swap(4, mark), api.OK)
	checkTake(t, s, 5, api.OK, mark, mark, whole(2), whole(3), null)
	s.Reset(room[:4])
	checkPop(t, s, whole(4), api.OK)
	checkErrno(t, "Push", s.Push(mark), api.OK)
	if !slices.Equal(room, upTo(6)) || !slices.Equal(kinds, []int{stack.Number, stack.Any, 7, 8}) {
		t.Errorf("changed: %+v %v", room, kinds)
	}
}

// P7.4, R4: what is handed in is not kept: whoever changes it later does not change the stack.
func TestHandedInIsNotKept(t *testing.T) {
	for n := range 6 {
		list := upTo(n)
		s := stack.New(9, over, under)
		checkErrno(t, "Push", s.Push(list...), api.OK)
		spoil(list)
		checkAll(t, s, upTo(n)...)
		list = upTo(n)
		s.Reset(list)
		spoil(list)
		checkAll(t, s, upTo(n)...)
		list = upTo(9)
		checkErrno(t, "Push", s.Push(list[:9-n]...), api.OK)
		spoil(list)
		checkAll(t, s, slices.Concat(upTo(n), upTo(9-n))...)
	}
}

// P7.4: what was answered is not the stack's any more: whoever changes it does not change the stack, nor another
// answer.
func TestAnswersAreNew(t *testing.T) {
	for n := range 6 {
		s := of(t, 9, upTo(5)...)
		first, second := s.All(), s.All()
		spoil(first)
		checkAll(t, s, upTo(5)...)
		if !slices.Equal(second, upTo(5)) {
			t.Errorf("another answer: %+v", second)
		}
		upper, e := s.Take(n)
		checkErrno(t, "Take", e, api.OK)
		lower, e := s.Take((5 - n) / 2)
		checkErrno(t, "Take", e, api.OK)
		left := 5 - n - len(lower)
		spoil(lower)
		checkAll(t, s, upTo(left)...)
		if !slices.Equal(upper, upTo(5)[5-n:]) {
			t.Errorf("what was taken ahead: %+v", upper)
		}
		spoil(upper)
		checkAll(t, s, upTo(left)...)
		checkErrno(t, "Push", s.Push(upTo(5)[left:]...), api.OK)
		spoil(lower)
		spoil(upper)
		checkAll(t, s, upTo(5)...)
	}
}

// P7.4: what was answered is not changed by later calls.
func TestAnswersStay(t *testing.T) {
	for n := range 6 {
		s := of(t, 9, upTo(5)...)
		all := s.All()
		taken, e := s.Take(n)
		checkErrno(t, "Take", e, api.OK)
		rest := s.All()
		none, e := s.Take(0)
		checkErrno(t, "Take", e, api.OK)
		for range 3 {
			checkErrno(t, "Push", s.Push(mark, mark, mark, mark), api.OK)
			checkErrno(t, "Roll", s.Roll(s.Len(), 3), api.OK)
			for i := range s.Len() {
				checkErrno(t, "Swap", s.Swap(i, null), api.OK)
			}
			checkTake(t, s, 3, api.OK, null, null, null)
			checkPop(t, s, null, api.OK)
		}
		s.Reset([]api.Obj{mark, mark, mark, mark, mark, mark})
		if !slices.Equal(all, upTo(5)) || !slices.Equal(taken, upTo(5)[5-n:]) || !slices.Equal(rest, upTo(5-n)) || len(none) != 0 {
			t.Errorf("%+v, %+v, %+v, %+v", all, taken, rest, none)
		}
	}
}

// R5: stacks are not one another's matter, and the same calls have the same answers.
func TestStacksAreAlone(t *testing.T) {
	one, two := of(t, 3, upTo(3)...), of(t, 3, upTo(3)...)
	checkTake(t, one, 2, api.OK, wholes(2, 3)...)
	checkErrno(t, "Push", one.Push(mark), api.OK)
	checkAll(t, two, upTo(3)...)
	two.Reset(one.All())
	checkErrno(t, "Swap", one.Swap(0, null), api.OK)
	checkAll(t, two, whole(1), mark)
	checkErrno(t, "Push of a stack's own", two.Push(two.All()[:1]...), api.OK)
	checkAll(t, two, whole(1), mark, whole(1))
	checkAll(t, one, whole(1), null)
}
