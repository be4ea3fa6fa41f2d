package path_test

import (
	"math/rand"
	"testing"

	"mezzotint/api"
	"mezzotint/path"
)

// model is a path told by its segments alone.
type model struct {
	list []api.Seg
	most int
}

// current goes back from the last segment.
func (m *model) current() (api.Point, bool) {
	for i := len(m.list) - 1; i >= 0; i-- {
		s := m.list[i]
		switch {
		case m.list[len(m.list)-1].Kind == api.Close && s.Kind != api.MoveTo:
			continue
		case s.Kind == api.CurveTo:
			return s.P[2], true
		}
		return s.P[0], true
	}
	return o, false
}

func (m *model) wants(s api.Seg) []api.Seg {
	n := len(m.list)
	switch {
	case s.Kind == api.MoveTo && n > 0 && m.list[n-1].Kind == api.MoveTo:
		return append(segs(m.list[:n-1]...), s)
	case s.Kind == api.Close && (n == 0 || m.list[n-1].Kind == api.Close):
		return m.list
	case s.Kind == api.MoveTo || s.Kind == api.Close || m.list[n-1].Kind != api.Close:
		return append(segs(m.list...), s)
	}
	at, _ := m.current()
	return append(segs(m.list...), moveTo(at), s)
}

func (m *model) add(s api.Seg) api.Errno {
	for _, a := range s.P {
		if a.X < api.MinFix || a.X > api.MaxFix || a.Y < api.MinFix || a.Y > api.MaxFix {
			return api.RangeCheck
		}
	}
	if len(m.list) == 0 && (s.Kind == api.LineTo || s.Kind == api.CurveTo) {
		return api.NoCurrentPoint
	}
	list := m.wants(s)
	if len(list) > max(m.most, len(m.list)) {
		return api.LimitCheck
	}
	m.list = append([]api.Seg(nil), list...)
	return api.OK
}

func anySeg(r *rand.Rand) api.Seg {
	at := func() api.Point {
		p := api.Point{X: r.Intn(9) - 4, Y: r.Intn(9) - 4}
		if r.Intn(30) == 0 {
			p.X = beyond[r.Intn(len(beyond))]
		}
		return p
	}
	switch r.Intn(4) {
	case 0:
		return moveTo(at())
	case 1:
		return lineTo(at())
	case 2:
		return curveTo(at(), at(), at())
	}
	return closing()
}

// P13.1, P13.2, R5: many calls, against a path that is told by its segments alone.
func TestAgainstTheModel(t *testing.T) {
	r := rand.New(rand.NewSource(13))
	for range 3000 {
		m := model{most: r.Intn(14) - 1}
		p := path.New(m.most)
		for range 30 {
			s := anySeg(r)
			checkErrno(t, "adding", add(p, s), m.add(s))
			checkSegments(t, p, m.list...)
			if at, ok := m.current(); ok {
				checkCurrent(t, p, at)
			} else {
				checkNoCurrent(t, p, api.NoCurrentPoint)
			}
			switch r.Intn(25) {
			case 0:
				p.Clear()
				m.list = nil
			case 1:
				p = p.Copy()
			}
			if t.Failed() {
				t.FailNow()
			}
		}
	}
}
