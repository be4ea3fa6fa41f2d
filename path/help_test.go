package path_test

import (
	"math"
	"slices"
	"testing"

	"mezzotint/api"
	"mezzotint/path"
)

var (
	a = api.Point{X: 1, Y: 2}
	b = api.Point{X: 50, Y: -60}
	c = api.Point{X: api.MinFix, Y: api.MaxFix}
	d = api.Point{X: -7, Y: 8}
	o = api.Point{}
)

// beyond are numbers that do not fit, next to those that do.
var beyond = []int{math.MinInt, api.MinFix - 1, api.MaxFix + 1, 1 << 32, math.MaxInt}

// wild answers points that do not fit, by X, by Y and by both.
func wild() (list []api.Point) {
	for _, n := range beyond {
		list = append(list, api.Point{X: n}, api.Point{Y: n}, api.Point{X: n, Y: n})
	}
	return list
}

func moveTo(a api.Point) api.Seg           { return api.Seg{Kind: api.MoveTo, P: [3]api.Point{a}} }
func lineTo(a api.Point) api.Seg           { return api.Seg{Kind: api.LineTo, P: [3]api.Point{a}} }
func curveTo(a, b, c api.Point) api.Seg    { return api.Seg{Kind: api.CurveTo, P: [3]api.Point{a, b, c}} }
func closing() api.Seg                     { return api.Seg{Kind: api.Close} }
func segs(list ...api.Seg) []api.Seg       { return list }
func points(list ...api.Point) []api.Point { return list }

// of answers a path of these segments, which takes so many more.
func of(t *testing.T, more int, list ...api.Seg) *path.Path {
	t.Helper()
	p := path.New(len(list) + more)
	for _, s := range list {
		checkErrno(t, "making", add(p, s), api.OK)
	}
	checkSegments(t, p, list...)
	return p
}

// add does the call that a segment stands for.
func add(p *path.Path, s api.Seg) api.Errno {
	switch s.Kind {
	case api.MoveTo:
		return p.Move(s.P[0])
	case api.LineTo:
		return p.Line(s.P[0])
	case api.CurveTo:
		return p.Curve(s.P[0], s.P[1], s.P[2])
	}
	return p.Close()
}

func checkErrno(t *testing.T, name string, e, want api.Errno) {
	t.Helper()
	if e != want {
		t.Errorf("%s: error %d, not %d", name, e, want)
	}
}

func checkSegments(t *testing.T, p *path.Path, want ...api.Seg) {
	t.Helper()
	list := p.Segments()
	if !slices.Equal(list, want) {
		t.Errorf("segments %v, not %v", list, want)
	}
	if !path.Sound(list) {
		t.Errorf("segments that are not sound: %v", list)
	}
}

func checkCurrent(t *testing.T, p *path.Path, want api.Point) {
	t.Helper()
	if at, e := p.Current(); at != want || e != api.OK {
		t.Errorf("current point %v, error %d, not %v", at, e, want)
	}
}

func checkNoCurrent(t *testing.T, p *path.Path, want api.Errno) {
	t.Helper()
	if at, e := p.Current(); at != o || e != want {
		t.Errorf("current point %v, error %d, not none and %d", at, e, want)
	}
}
