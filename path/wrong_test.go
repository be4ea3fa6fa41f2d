package path_test

import (
	"math"
	"testing"

	"mezzotint/api"
	"mezzotint/path"
)

// checkRefused checks that every call with a point that does not fit is refused, and that it leaves the path.
func checkRefused(t *testing.T, p *path.Path, want api.Errno) {
	t.Helper()
	list := p.Segments()
	at, e := p.Current()
	for _, w := range wild() {
		checkErrno(t, "Move", p.Move(w), want)
		checkErrno(t, "Line", p.Line(w), want)
		checkErrno(t, "Curve", p.Curve(w, a, b), want)
		checkErrno(t, "Curve", p.Curve(a, w, b), want)
		checkErrno(t, "Curve", p.Curve(a, b, w), want)
		checkErrno(t, "Curve", p.Curve(w, w, w), want)
	}
	checkSegments(t, p, list...)
	if now, f := p.Current(); now != at || f != e {
		t.Errorf("a refused call moved the current point from %v, %d to %v, %d", at, e, now, f)
	}
}

// P13.1, R2, R6: points that do not fit are RangeCheck ahead of all else, in each place of each call, in a path
// that is empty, full, closed, or none of these.
func TestPointsThatDoNotFit(t *testing.T) {
	for _, more := range []int{-9, -1, 0, 1, 2, 9} {
		checkRefused(t, path.New(more), api.RangeCheck)
		if more < 0 {
			continue
		}
		checkRefused(t, of(t, more, moveTo(a)), api.RangeCheck)
		checkRefused(t, of(t, more, moveTo(a), lineTo(b)), api.RangeCheck)
		checkRefused(t, of(t, more, moveTo(a), curveTo(b, c, d)), api.RangeCheck)
		checkRefused(t, of(t, more, moveTo(a), lineTo(b), closing()), api.RangeCheck)
	}
}

// P13.1, R6: a Move that is refused does not move where a Close leads.
func TestRefusedMove(t *testing.T) {
	p := of(t, 0, moveTo(a), lineTo(b), closing())
	checkErrno(t, "Move", p.Move(c), api.LimitCheck)
	checkErrno(t, "Move", p.Move(api.Point{X: 1 << 40}), api.RangeCheck)
	checkCurrent(t, p, a)
	p = of(t, 1, moveTo(a), lineTo(b))
	checkErrno(t, "Move", p.Move(api.Point{Y: 1 << 40}), api.RangeCheck)
	checkErrno(t, "Close", p.Close(), api.OK)
	checkCurrent(t, p, a)
}

// P13.1: in a path that takes nothing.
func TestMostOfNothing(t *testing.T) {
	for _, most := range []int{math.MinInt, -4096, -2, -1, 0} {
		p := path.New(most)
		checkErrno(t, "Move", p.Move(a), api.LimitCheck)
		checkErrno(t, "Line", p.Line(a), api.NoCurrentPoint)
		checkErrno(t, "Curve", p.Curve(a, b, c), api.NoCurrentPoint)
		checkErrno(t, "Close", p.Close(), api.OK)
		checkSegments(t, p)
		checkNoCurrent(t, p, api.NoCurrentPoint)
	}
}

// P13.1: in a path that takes one segment, a Move may be in the place of another.
func TestMostOfOne(t *testing.T) {
	p := path.New(1)
	checkErrno(t, "Move", p.Move(a), api.OK)
	checkErrno(t, "Line", p.Line(b), api.LimitCheck)
	checkErrno(t, "Curve", p.Curve(b, c, d), api.LimitCheck)
	checkErrno(t, "Close", p.Close(), api.LimitCheck)
	checkSegments(t, p, moveTo(a))
	checkCurrent(t, p, a)
	checkErrno(t, "Move", p.Move(b), api.OK)
	checkSegments(t, p, moveTo(b))
	checkCurrent(t, p, b)
	p.Clear()
	checkErrno(t, "Move", p.Move(c), api.OK)
	checkErrno(t, "Line", p.Line(b), api.LimitCheck)
	checkSegments(t, p, moveTo(c))
}

// P13.1: what is just as many as may be is added, one more is refused, and nothing is added then.
func TestMost(t *testing.T) {
	lists := [][]api.Seg{{moveTo(a), lineTo(b)}, {moveTo(a), curveTo(b, c, d)}, {moveTo(a), closing()}, {moveTo(a), lineTo(b), moveTo(c)}, {moveTo(a), closing(), moveTo(b)}}
	for _, list := range lists {
		p := of(t, 0, list...)
		before := list[:len(list)-1]
		checkErrno(t, "adding", add(of(t, 0, before...), list[len(list)-1]), api.LimitCheck)
		at, _ := p.Current()
		checkErrno(t, "Line", add(p, lineTo(d)), api.LimitCheck)
		checkErrno(t, "Curve", add(p, curveTo(a, b, d)), api.LimitCheck)
		checkSegments(t, p, list...)
		checkCurrent(t, p, at)
	}
	p := of(t, 0, moveTo(a), lineTo(b))
	checkErrno(t, "Move", p.Move(c), api.LimitCheck)
	checkErrno(t, "Close", p.Close(), api.LimitCheck)
	checkSegments(t, p, moveTo(a), lineTo(b))
	checkCurrent(t, p, b)
}

// P13.1: Line and Curve behind a Close are two segments, or none: not the MoveTo alone.
func TestMostOfTwo(t *testing.T) {
	for _, s := range segs(lineTo(d), curveTo(b, c, d)) {
		for more := range 2 {
			p := of(t, more, moveTo(a), lineTo(b), closing())
			checkErrno(t, "adding", add(p, s), api.LimitCheck)
			checkSegments(t, p, moveTo(a), lineTo(b), closing())
			checkCurrent(t, p, a)
			checkErrno(t, "Close", p.Close(), api.OK)
			if more == 1 {
				checkErrno(t, "Move", p.Move(c), api.OK)
				checkSegments(t, p, moveTo(a), lineTo(b), closing(), moveTo(c))
			}
		}
		p := of(t, 2, moveTo(a), lineTo(b), closing())
		checkErrno(t, "adding", add(p, s), api.OK)
		checkSegments(t, p, moveTo(a), lineTo(b), closing(), moveTo(a), s)
		checkErrno(t, "Close", p.Close(), api.LimitCheck)
		checkCurrent(t, p, d)
	}
}

// P13.1: a Close in a full path that is closed does nothing, and is no error.
func TestCloseOfAFullPath(t *testing.T) {
	p := of(t, 0, moveTo(a), lineTo(b), closing())
	checkErrno(t, "Close", p.Close(), api.OK)
	checkSegments(t, p, moveTo(a), lineTo(b), closing())
	p = of(t, 0, moveTo(a), curveTo(b, c, d))
	checkErrno(t, "Close", p.Close(), api.LimitCheck)
	checkSegments(t, p, moveTo(a), curveTo(b, c, d))
	checkCurrent(t, p, d)
}

// P13.1, P13.2: segments are sound, so there are at most MaxSegments, whatever New was told.
func TestMostSegments(t *testing.T) {
	for _, most := range []int{api.MaxSegments, api.MaxSegments + 1, math.MaxInt} {
		p := path.New(most)
		p.Move(a)
		for range api.MaxSegments - 1 {
			checkErrno(t, "Line", p.Line(b), api.OK)
		}
		checkErrno(t, "Line", p.Line(c), api.LimitCheck)
		checkErrno(t, "Curve", p.Curve(a, b, c), api.LimitCheck)
		checkErrno(t, "Move", p.Move(c), api.LimitCheck)
		checkErrno(t, "Close", p.Close(), api.LimitCheck)
		checkCurrent(t, p, b)
		if list := p.Segments(); len(list) != api.MaxSegments || !path.Sound(list) {
			t.Errorf("%d segments", len(list))
		}
	}
}

// P13.2, R1: of a nil path.
func TestNilPath(t *testing.T) {
	var p *path.Path
	checkErrno(t, "Move", p.Move(a), api.ErrArg)
	checkErrno(t, "Line", p.Line(a), api.ErrArg)
	checkErrno(t, "Curve", p.Curve(a, b, c), api.ErrArg)
	checkErrno(t, "Close", p.Close(), api.ErrArg)
	checkNoCurrent(t, p, api.ErrArg)
	checkRefused(t, p, api.ErrArg)
	if list := p.Segments(); len(list) != 0 {
		t.Errorf("segments %v", list)
	}
	if q := p.Copy(); q != nil {
		t.Errorf("copy %v", q)
	}
	p.Clear()
}

// R1: a path that New did not make takes nothing.
func TestZeroPath(t *testing.T) {
	var p path.Path
	checkErrno(t, "Move", p.Move(a), api.LimitCheck)
	checkErrno(t, "Line", p.Line(a), api.NoCurrentPoint)
	checkSegments(t, p.Copy())
}
