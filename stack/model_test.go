package stack_test

import (
	"math/rand"
	"slices"
	"testing"

	"mezzotint/api"
	"mezzotint/stack"
)

// model does what a stack does by a plain list, each change of which makes a new one.
type model struct {
	s      *stack.Stack
	r      *rand.Rand
	list   []api.Obj
	most   int
	made   int       // how many objects there ever were, so that no two are alike
	answer []answers // that are to stay as they were
}

// answers is a list that the stack answered, and what it has to be.
type answers struct{ list, want []api.Obj }

// objects answers n new ones, of some Kinds.
func (m *model) objects(n int) (list []api.Obj) {
	for range n {
		m.made++
		list = append(list, api.Obj{Kind: m.r.Intn(api.Save + 1), Exec: m.r.Intn(2) == 0, N: m.made})
	}
	return list
}

// fewer answers why there are no n top ones; OK if there are.
func (m *model) fewer(n int) api.Errno {
	switch {
	case n < 0:
		return api.RangeCheck
	case n > len(m.list):
		return under
	}
	return api.OK
}

func (m *model) push(t *testing.T) {
	list := m.objects(m.r.Intn(4))
	want := api.OK
	if len(m.list)+len(list) > m.most {
		want = over
	} else {
		m.list = slices.Concat(m.list, list)
	}
	checkErrno(t, "Push", m.s.Push(list...), want)
	spoil(list)
}

func (m *model) pop(t *testing.T) {
	want, e := null, m.fewer(1)
	if e == api.OK {
		low := len(m.list) - 1
		want, m.list = m.list[low], slices.Clone(m.list[:low])
	}
	checkPop(t, m.s, want, e)
}

func (m *model) take(t *testing.T) {
	n := m.r.Intn(6) - 1
	want, wantErrno := []api.Obj(nil), m.fewer(n)
	if wantErrno == api.OK {
		low := len(m.list) - n
		want, m.list = slices.Clone(m.list[low:]), slices.Clone(m.list[:low])
	}
	list, e := m.s.Take(n)
	checkErrno(t, "Take", e, wantErrno)
	m.answer = append(m.answer, answers{list, want})
}

func (m *model) swap(t *testing.T) {
	i, x := m.r.Intn(6)-1, m.objects(1)[0]
	want := api.RangeCheck
	if i >= 0 {
		want = m.fewer(i + 1)
	}
	if want == api.OK {
		m.list = slices.Clone(m.list)
		m.list[len(m.list)-1-i] = x
	}
	checkErrno(t, "Swap", m.s.Swap(i, x), want)
}

func (m *model) roll(t *testing.T) {
	n, j := m.r.Intn(10)-1, m.r.Intn(25)-12
	want := m.fewer(n)
	if want == api.OK {
		m.list = rolled(m.list, n, j)
	}
	checkErrno(t, "Roll", m.s.Roll(n, j), want)
}

func (m *model) toMark(t *testing.T) {
	want, e := 0, api.UnmatchedMark
	for i, o := range m.list {
		if o.Kind == api.Mark {
			want, e = len(m.list)-1-i, api.OK
		}
	}
	checkToMark(t, m.s, want, e)
}

func (m *model) reset() {
	list := m.objects(m.r.Intn(m.most + 3))
	m.list = slices.Clone(list[:min(len(list), m.most)])
	m.s.Reset(list)
	spoil(list)
}

// need asks for what is there, in part, and perhaps for another Kind.
func (m *model) need(t *testing.T) {
	n := m.r.Intn(5)
	want := m.fewer(n)
	asked := make([]int, n)
	for i := range asked {
		asked[i] = stack.Any
		if want == under {
			continue
		}
		o := m.list[len(m.list)-n+i]
		switch {
		case m.r.Intn(8) == 0:
			asked[i], want = o.Kind+1, api.TypeCheck
		case o.Kind == api.Array && o.Exec:
			asked[i] = stack.Proc
		case o.Kind == api.Array || o.Kind == api.String:
			asked[i] = stack.Sequence
		case o.Kind == api.Int || o.Kind == api.Real:
			asked[i] = stack.Number
		case m.r.Intn(2) == 0:
			asked[i] = o.Kind
		}
	}
	checkErrno(t, "Need", m.s.Need(asked...), want)
}

func (m *model) step(t *testing.T) {
	switch m.r.Intn(14) {
	case 0, 1, 2, 3:
		m.push(t)
	case 4, 5:
		m.pop(t)
	case 6:
		m.take(t)
	case 7:
		m.swap(t)
	case 8, 9:
		m.roll(t)
	case 10:
		m.toMark(t)
	case 11:
		m.need(t)
	case 12:
		m.answer = append(m.answer, answers{m.s.All(), m.list})
	case 13:
		if m.r.Intn(10) == 0 {
			m.reset()
		}
	}
}

// check holds the stack, and all that it ever answered, against the model.
func (m *model) check(t *testing.T) {
	checkAll(t, m.s, m.list...)
	checkTop(t, m.s, len(m.list), null, under)
	for _, a := range m.answer {
		if !slices.Equal(a.list, a.want) {
			t.Errorf("an answer is %+v, not %+v", a.list, a.want)
		}
	}
}

// P7.1 to P7.4: many random calls, one behind the other.
func TestAgainstModel(t *testing.T) {
	for seed := range 100 {
		r := rand.New(rand.NewSource(int64(seed)))
		m := &model{r: r, most: r.Intn(12)}
		m.s = stack.New(m.most, over, under)
		for range 300 {
			m.step(t)
			m.check(t)
			if t.Failed() {
				t.Fatalf("seed %d", seed)
			}
		}
	}
}
