package path_test

import (
	"math"
	"testing"

	"mezzotint/api"
	"mezzotint/path"
)

// P13.1: a new path has nothing, and no current point.
func TestNew(t *testing.T) {
	for _, most := range []int{math.MinInt, -1, 0, 1, 5, api.MaxSegments, math.MaxInt} {
		p := path.New(most)
		checkSegments(t, p)
		checkNoCurrent(t, p, api.NoCurrentPoint)
	}
}

// P13.1: Move adds a MoveTo, in the place of one that is last.
func TestMove(t *testing.T) {
	p := path.New(9)
	checkErrno(t, "Move", p.Move(b), api.OK)
	checkSegments(t, p, moveTo(b))
	checkErrno(t, "Move", p.Move(c), api.OK)
	checkSegments(t, p, moveTo(c))
	checkErrno(t, "Move", p.Move(a), api.OK)
	checkSegments(t, p, moveTo(a))
	checkCurrent(t, p, a)
	checkErrno(t, "Line", p.Line(d), api.OK)
	checkErrno(t, "Move", p.Move(b), api.OK)
	checkErrno(t, "Move", p.Move(d), api.OK)
	checkSegments(t, p, moveTo(a), lineTo(d), moveTo(d))
	checkErrno(t, "Close", p.Close(), api.OK)
	checkErrno(t, "Move", p.Move(c), api.OK)
	checkSegments(t, p, moveTo(a), lineTo(d), moveTo(d), closing(), moveTo(c))
	checkCurrent(t, p, c)
}

// P13.1: Line and Curve add a LineTo and a CurveTo.
func TestLineAndCurve(t *testing.T) {
	p := path.New(9)
	p.Move(a)
	checkErrno(t, "Line", p.Line(b), api.OK)
	checkCurrent(t, p, b)
	checkErrno(t, "Curve", p.Curve(c, d, a), api.OK)
	checkCurrent(t, p, a)
	checkErrno(t, "Curve", p.Curve(a, b, o), api.OK)
	checkCurrent(t, p, o)
	checkErrno(t, "Line", p.Line(o), api.OK)
	checkErrno(t, "Line", p.Line(o), api.OK)
	checkSegments(t, p, moveTo(a), lineTo(b), curveTo(c, d, a), curveTo(a, b, o), lineTo(o), lineTo(o))
}

// P13.1: where there is no point yet, Line and Curve are NoCurrentPoint, and Close does nothing.
func TestNoPointYet(t *testing.T) {
	for _, most := range []int{-1, 0, 1, 9} {
		p := path.New(most)
		for range 2 {
			checkErrno(t, "Line", p.Line(a), api.NoCurrentPoint)
			checkErrno(t, "Curve", p.Curve(a, b, c), api.NoCurrentPoint)
			checkErrno(t, "Close", p.Close(), api.OK)
			checkSegments(t, p)
			checkNoCurrent(t, p, api.NoCurrentPoint)
		}
	}
}

// P13.1: Line and Curve behind a Close come behind a MoveTo to where that led.
func TestBehindAClose(t *testing.T) {
	p := of(t, 9, moveTo(d), lineTo(c), moveTo(a), lineTo(b), closing())
	checkErrno(t, "Line", p.Line(c), api.OK)
	checkSegments(t, p, moveTo(d), lineTo(c), moveTo(a), lineTo(b), closing(), moveTo(a), lineTo(c))
	checkErrno(t, "Close", p.Close(), api.OK)
	checkCurrent(t, p, a)
	checkErrno(t, "Curve", p.Curve(b, c, d), api.OK)
	checkSegments(t, p, moveTo(d), lineTo(c), moveTo(a), lineTo(b), closing(), moveTo(a), lineTo(c), closing(), moveTo(a), curveTo(b, c, d))
	checkCurrent(t, p, d)
	p = of(t, 4, moveTo(c), closing())
	checkErrno(t, "Line", p.Line(a), api.OK)
	checkSegments(t, p, moveTo(c), closing(), moveTo(c), lineTo(a))
}

// P13.1: where a MoveTo replaced another, Close leads to the one that stands.
func TestCloseLeadsToTheLastMove(t *testing.T) {
	p := path.New(9)
	p.Move(b)
	p.Move(a)
	p.Line(c)
	checkErrno(t, "Close", p.Close(), api.OK)
	checkCurrent(t, p, a)
	p.Move(c)
	p.Move(d)
	checkErrno(t, "Close", p.Close(), api.OK)
	checkCurrent(t, p, d)
	p.Line(b)
	checkSegments(t, p, moveTo(a), lineTo(c), closing(), moveTo(d), closing(), moveTo(d), lineTo(b))
}

// P13.1: Close behind each kind of segment; behind a Close it does nothing.
func TestClose(t *testing.T) {
	for _, list := range [][]api.Seg{{moveTo(a)}, {moveTo(a), lineTo(b)}, {moveTo(a), curveTo(b, c, d)}} {
		p := of(t, 9, list...)
		for range 3 {
			checkErrno(t, "Close", p.Close(), api.OK)
			checkSegments(t, p, append(list, closing())...)
			checkCurrent(t, p, a)
		}
	}
}

// P13.1: the current point behind each kind of segment, and where there is none.
func TestCurrent(t *testing.T) {
	checkCurrent(t, of(t, 0, moveTo(a)), a)
	checkCurrent(t, of(t, 0, moveTo(a), lineTo(b)), b)
	checkCurrent(t, of(t, 0, moveTo(a), curveTo(b, c, d)), d)
	checkCurrent(t, of(t, 0, moveTo(a), curveTo(b, c, d), closing()), a)
	checkCurrent(t, of(t, 0, moveTo(a), closing(), moveTo(b)), b)
	checkCurrent(t, of(t, 0, moveTo(a), closing(), moveTo(b), closing()), b)
	checkCurrent(t, of(t, 0, moveTo(c)), c)
	p := of(t, 5, moveTo(a), lineTo(b), closing())
	p.Clear()
	checkNoCurrent(t, p, api.NoCurrentPoint)
	checkErrno(t, "Line", p.Line(a), api.NoCurrentPoint)
	checkErrno(t, "Curve", p.Curve(a, b, c), api.NoCurrentPoint)
	checkErrno(t, "Close", p.Close(), api.OK)
	checkSegments(t, p)
	checkErrno(t, "Move", p.Move(d), api.OK)
	checkCurrent(t, p, d)
}

// P13.1: points at the ends of what fits are taken.
func TestPointsAtTheEnds(t *testing.T) {
	for _, x := range []int{api.MinFix, api.MaxFix} {
		for _, y := range []int{api.MinFix, api.MaxFix} {
			z := api.Point{X: x, Y: y}
			of(t, 0, moveTo(z), lineTo(z), curveTo(z, z, z), closing())
		}
	}
}

// P13.1: the document's example.
func TestExample(t *testing.T) {
	p := path.New(api.MaxSegments)
	p.Move(a)
	p.Move(b)
	checkSegments(t, p, moveTo(b))
	p.Clear()
	p.Move(a)
	p.Line(b)
	p.Close()
	p.Line(c)
	checkSegments(t, p, moveTo(a), lineTo(b), closing(), moveTo(a), lineTo(c))
}
