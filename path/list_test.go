package path_test

import (
	"math"
	"slices"
	"testing"

	"mezzotint/api"
	"mezzotint/path"
)

func checkSound(t *testing.T, want bool, list ...api.Seg) {
	t.Helper()
	if got := path.Sound(list); got != want {
		t.Errorf("sound is %v of %v", got, list)
	}
}

// P13.2: which kinds may stand where.
func TestSoundOrder(t *testing.T) {
	move, line, curve, end := moveTo(a), lineTo(b), curveTo(b, c, d), closing()
	checkSound(t, true)
	checkSound(t, true, move)
	checkSound(t, true, move, line)
	checkSound(t, true, move, curve)
	checkSound(t, true, move, end)
	checkSound(t, true, move, line, curve, line, line, curve, curve, end)
	checkSound(t, true, move, line, move)
	checkSound(t, true, move, curve, move, line)
	checkSound(t, true, move, end, move, end, move, line, move, end, move)
	checkSound(t, true, moveTo(o), lineTo(o), curveTo(o, o, o), closing())
	checkSound(t, false, line)
	checkSound(t, false, curve)
	checkSound(t, false, end)
	checkSound(t, false, line, move)
	checkSound(t, false, end, move)
	checkSound(t, false, move, move)
	checkSound(t, false, move, line, move, move)
	checkSound(t, false, move, end, move, move, line)
	checkSound(t, false, move, line, end, line)
	checkSound(t, false, move, line, end, curve)
	checkSound(t, false, move, line, end, end)
	checkSound(t, false, move, end, move, end, line, move)
}

// P13.2: Kinds are those of api.
func TestSoundKinds(t *testing.T) {
	for _, kind := range []int{math.MinInt, -4, -3, -2, -1, 0, 5, 6, 9, 65537, 1<<32 + 1, 1<<32 + 2, math.MaxInt} {
		wrong := api.Seg{Kind: kind}
		checkSound(t, false, wrong)
		checkSound(t, false, moveTo(a), wrong)
		checkSound(t, false, moveTo(a), lineTo(b), wrong, lineTo(b))
		checkSound(t, false, moveTo(a), closing(), wrong)
	}
}

// kinds answers one segment of each kind behind what may be ahead of it, and how many points it has.
func kinds() map[int][]api.Seg {
	return map[int][]api.Seg{
		api.MoveTo:  {moveTo(a), lineTo(b), moveTo(o)},
		api.LineTo:  {moveTo(a), lineTo(o)},
		api.CurveTo: {moveTo(a), curveTo(o, o, o)},
		api.Close:   {moveTo(a), closing()},
	}
}

// P13.2: points fit, and those that a segment does not have are 0.
func TestSoundPoints(t *testing.T) {
	has := map[int]int{api.MoveTo: 1, api.LineTo: 1, api.CurveTo: 3, api.Close: 0}
	right := points(a, b, c, d, api.Point{X: 1}, api.Point{Y: -1}, api.Point{X: api.MaxFix, Y: api.MinFix}, api.Point{X: api.MinFix, Y: api.MaxFix})
	for kind, list := range kinds() {
		for i := range 3 {
			for _, p := range right {
				list[len(list)-1].P[i] = p
				checkSound(t, i < has[kind], list...)
			}
			for _, p := range wild() {
				list[len(list)-1].P[i] = p
				checkSound(t, false, list...)
			}
			list[len(list)-1].P[i] = o
			checkSound(t, true, list...)
		}
	}
}

// P13.2: a fault anywhere is one, behind any number of segments that are sound.
func TestSoundAnywhere(t *testing.T) {
	right := segs(moveTo(a), lineTo(b), curveTo(b, c, d), closing(), moveTo(d), curveTo(a, b, c), lineTo(a))
	checkSound(t, true, right...)
	for i := range right {
		for _, p := range wild() {
			list := slices.Clone(right)
			list[i].P[0] = p
			checkSound(t, false, list...)
		}
		list := slices.Clone(right)
		list[i].Kind = 0
		checkSound(t, false, list...)
	}
}

// P13.2: at most MaxSegments.
func TestSoundMost(t *testing.T) {
	list := segs(moveTo(a))
	for len(list) < api.MaxSegments {
		list = append(list, lineTo(b))
	}
	checkSound(t, true, list...)
	if _, _, ok := path.Box(list); !ok {
		t.Error("no box of MaxSegments")
	}
	if path.Sound(append(list, lineTo(b))) || path.Sound(append(list, closing())) {
		t.Error("one more than MaxSegments is sound")
	}
	if low, high, ok := path.Box(append(list, lineTo(b))); ok || low != o || high != o {
		t.Errorf("a box of one more than MaxSegments: %v %v %v", low, high, ok)
	}
}

func checkBox(t *testing.T, low, high api.Point, list ...api.Seg) {
	t.Helper()
	if l, h, ok := path.Box(list); !ok || l != low || h != high {
		t.Errorf("box %v %v %v, not %v %v, of %v", l, h, ok, low, high, list)
	}
}

func point(x, y int) api.Point { return api.Point{X: x, Y: y} }

// P13.2: a box is told by all points, those that lead a curve too, and by no other.
func TestBox(t *testing.T) {
	checkBox(t, o, o, moveTo(o))
	checkBox(t, a, a, moveTo(a))
	checkBox(t, a, a, moveTo(a), closing())
	checkBox(t, d, d, moveTo(d), closing())
	checkBox(t, point(1, -60), point(50, 2), moveTo(a), lineTo(b))
	checkBox(t, point(1, -60), point(50, 2), moveTo(b), lineTo(a), closing())
	checkBox(t, point(3, 4), point(9, 8), moveTo(point(3, 8)), lineTo(point(9, 4)), closing(), moveTo(point(5, 5)))
	checkBox(t, point(-9, -8), point(-3, -4), moveTo(point(-3, -8)), lineTo(point(-9, -4)), closing())
	checkBox(t, point(-5, -6), point(7, 8), moveTo(o), lineTo(point(-5, 0)), lineTo(point(0, -6)), lineTo(point(7, 0)), lineTo(point(0, 8)))
	checkBox(t, point(-1, -2), point(2, 1), moveTo(o), curveTo(point(-1, 1), point(2, -2), o))
	checkBox(t, point(10, 5), point(30, 40), moveTo(point(10, 10)), curveTo(point(20, 5), point(30, 40), point(11, 12)))
	checkBox(t, point(10, 10), point(31, 41), moveTo(point(10, 10)), curveTo(point(20, 20), point(15, 15), point(31, 41)))
	checkBox(t, point(4, 3), point(20, 20), moveTo(point(10, 10)), lineTo(point(20, 20)), moveTo(point(4, 3)))
	checkBox(t, point(api.MinFix, api.MinFix), point(api.MaxFix, api.MaxFix), moveTo(point(api.MaxFix, api.MinFix)), lineTo(point(api.MinFix, api.MaxFix)))
}

// P13.2: each point of each kind counts, on each side.
func TestBoxOfEachPoint(t *testing.T) {
	has := map[int]int{api.MoveTo: 1, api.LineTo: 1, api.CurveTo: 3}
	far := point(100, 100)
	for kind, n := range has {
		list := segs(moveTo(far), lineTo(far), api.Seg{Kind: kind})
		for i := range n {
			for j := range n {
				list[2].P[j] = far
			}
			list[2].P[i] = point(90, 91)
			checkBox(t, point(90, 91), far, list...)
			list[2].P[i] = point(110, 120)
			checkBox(t, far, point(110, 120), list...)
		}
	}
}

// P13.2, R3: there is no box of what is not sound, or of nothing.
func TestNoBox(t *testing.T) {
	for _, list := range [][]api.Seg{nil, {}, {lineTo(a)}, {closing()}, {moveTo(a), moveTo(b)}, {moveTo(a), lineTo(b), closing(), lineTo(a)},
		{moveTo(a), {Kind: 9}}, {moveTo(a), lineTo(api.Point{X: 1 << 40})}, {moveTo(a), {Kind: api.Close, P: [3]api.Point{b}}}} {
		if low, high, ok := path.Box(list); ok || low != o || high != o {
			t.Errorf("box %v %v %v of %v", low, high, ok, list)
		}
	}
}
