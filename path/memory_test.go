package path_test

import (
	"slices"
	"testing"

	"mezzotint/api"
	"mezzotint/path"
)

// spoil writes over all that can be reached from a list, spare room included.
func spoil(list []api.Seg) {
	list = list[:cap(list)]
	for i := range list {
		list[i] = api.Seg{Kind: 77, P: [3]api.Point{d, d, d}}
	}
}

func some() []api.Seg {
	return segs(moveTo(a), lineTo(b), curveTo(b, c, d), closing(), moveTo(d), lineTo(a))
}

// P13.2, R4: whoever changes what Segments answered changes neither the path nor another answer.
func TestSegmentsAreNew(t *testing.T) {
	for n := range len(some()) + 1 {
		list := some()[:n]
		p := of(t, 9, list...)
		first, second := p.Segments(), p.Segments()
		spoil(first)
		if !slices.Equal(second, list) {
			t.Errorf("another answer is changed: %v", second)
		}
		checkSegments(t, p, list...)
		p.Move(c)
		p.Line(c)
		p.Close()
		if !slices.Equal(second, list) {
			t.Errorf("an answer is changed by the path: %v", second)
		}
	}
}

// P13.2: Clear leaves nothing, again and again, and the path takes as much as before.
func TestClear(t *testing.T) {
	p := of(t, 0, some()...)
	answered := p.Segments()
	for range 2 {
		p.Clear()
		checkSegments(t, p)
		checkNoCurrent(t, p, api.NoCurrentPoint)
	}
	for _, s := range some() {
		checkErrno(t, "adding", add(p, s), api.OK)
	}
	checkSegments(t, p, some()...)
	checkErrno(t, "Line", p.Line(a), api.LimitCheck)
	if !slices.Equal(answered, some()) {
		t.Errorf("an answer is changed by Clear: %v", answered)
	}
	p = of(t, 3, moveTo(a), lineTo(b), closing())
	p.Clear()
	checkErrno(t, "Move", p.Move(d), api.OK)
	checkErrno(t, "Close", p.Close(), api.OK)
	checkErrno(t, "Line", p.Line(b), api.OK)
	checkSegments(t, p, moveTo(d), closing(), moveTo(d), lineTo(b))
	path.New(4).Clear()
}

// P13.2: a copy has the same segments, current point and room, and neither sees what is done with the other.
func TestCopy(t *testing.T) {
	for n := range len(some()) + 1 {
		list := some()[:n]
		p := of(t, 3, list...)
		q := p.Copy()
		checkSegments(t, q, list...)
		at, e := p.Current()
		if now, f := q.Current(); now != at || f != e {
			t.Errorf("the copy's current point is %v, %d, not %v, %d", now, f, at, e)
		}
		p.Move(c)
		p.Close()
		checkSegments(t, q, list...)
		if now, f := q.Current(); now != at || f != e {
			t.Errorf("the copy's current point is moved to %v, %d", now, f)
		}
		mine := p.Segments()
		q.Move(b)
		q.Line(d)
		checkSegments(t, p, mine...)
		checkCurrent(t, p, c)
		checkCurrent(t, q, d)
		p.Clear()
		checkCurrent(t, q, d)
		q.Clear()
		p.Move(a)
		checkSegments(t, q)
		checkSegments(t, p, moveTo(a))
	}
}

// P13.2: a copy takes as many segments as the path that it is of, and knows where a Close leads.
func TestCopyIsAsLarge(t *testing.T) {
	q := of(t, 2, moveTo(a), lineTo(b), closing()).Copy()
	checkErrno(t, "Curve", q.Curve(b, c, d), api.OK)
	checkSegments(t, q, moveTo(a), lineTo(b), closing(), moveTo(a), curveTo(b, c, d))
	checkErrno(t, "Line", q.Line(b), api.LimitCheck)
	q.Clear()
	for _, s := range some()[:5] {
		checkErrno(t, "adding", add(q, s), api.OK)
	}
	checkErrno(t, "Line", q.Line(b), api.LimitCheck)
	p := of(t, 1, moveTo(a), lineTo(b)).Copy()
	checkErrno(t, "Close", p.Close(), api.OK)
	checkCurrent(t, p, a)
	e := path.New(0).Copy()
	checkSegments(t, e)
	checkErrno(t, "Move", e.Move(a), api.LimitCheck)
}

// R4: Sound and Box do not change what they are handed, spare room included.
func TestListsAreNotChanged(t *testing.T) {
	list := some()
	for n := range len(list) + 1 {
		for from := range n + 1 {
			path.Sound(list[from:n])
			path.Box(list[from:n])
		}
	}
	if !slices.Equal(list, some()) {
		t.Errorf("changed: %v", list)
	}
}
