package geometry_test

import (
	"cmp"
	"math"
	"math/big"
	"math/rand/v2"
	"slices"
	"testing"

	"coupe/api"
	"coupe/geometry"
)

const (
	least       = -1 << 63
	most        = 1<<63 - 1
	far         = api.MaxCoord
	maxDistance = 200000
)

func at(x, y int) api.Point {
	return api.Point{X: x, Y: y}
}

// outside are points that are not valid.
func outside() []api.Point {
	var l []api.Point
	for _, x := range []int{least, -far, -1, far + 1, most} {
		l = append(l, at(x, 0), at(0, x), at(x, x))
	}
	return l
}

// grid has all points up to a greatest X and Y.
func grid(x, y int) []api.Point {
	var l []api.Point
	for i := range (x + 1) * (y + 1) {
		l = append(l, at(i%(x+1), i/(x+1)))
	}
	return l
}

// source makes points of the whole map: some random, some at its border, some close to or in line with earlier ones.
type source struct {
	r    *rand.Rand
	made []api.Point
}

func (s *source) point() api.Point {
	p := at(s.r.IntN(far+1), s.r.IntN(far+1))
	n := len(s.made)
	switch s.r.IntN(6) {
	case 0:
		p = at(s.r.IntN(2)*far, s.r.IntN(far+1))
	case 1:
		p = at(s.r.IntN(2)*far, s.r.IntN(2)*far)
	case 2:
		if n > 0 {
			q := s.made[s.r.IntN(n)]
			p = at(q.X+s.r.IntN(3)-1, q.Y+s.r.IntN(3)-1)
		}
	case 3:
		if n > 1 {
			a, b := s.made[s.r.IntN(n)], s.made[s.r.IntN(n)]
			k := s.r.IntN(5) - 1
			p = at(a.X+k*(b.X-a.X)/2, a.Y+k*(b.Y-a.Y)/2)
		}
	}
	p = at(min(max(p.X, 0), far), min(max(p.Y, 0), far))
	s.made = append(s.made, p)
	return p
}

// four returns points that have something to do with each other.
func four(r *rand.Rand) (a, b, c, d api.Point) {
	s := &source{r: r}
	l := []api.Point{s.point(), s.point(), s.point(), s.point()}
	r.Shuffle(4, func(i, j int) { l[i], l[j] = l[j], l[i] })
	return l[0], l[1], l[2], l[3]
}

// TestP1_AnyArguments calls all functions with arguments of any form: none panics, and beside an error there is nothing else.
func TestP1_AnyArguments(t *testing.T) {
	beside := func(name string, something bool, e int) {
		t.Helper()
		if something && e != api.OK {
			t.Error(name, "has a result beside the error", e)
		}
	}
	points := append(outside(), at(0, 0), at(1, 0), at(far, far), at(0, far))
	for _, a := range points {
		geometry.Check(a)
		for _, b := range points {
			d, e := geometry.Dist2(a, b)
			beside("Dist2", d != 0, e)
			l, e := geometry.Length(a, b)
			beside("Length", l != api.Span{}, e)
			for _, c := range points {
				n, e := geometry.Cross(a, b, c)
				beside("Cross", n != 0, e)
				n, e = geometry.Orient(a, b, c)
				beside("Orient", n != 0, e)
				yes, e := geometry.OnSegment(a, b, c)
				beside("OnSegment", yes, e)
				list, e := geometry.Order(a, []api.Point{b, c, b})
				beside("Order", list != nil, e)
				for _, r := range []int{least, -1, 0, maxDistance, maxDistance + 1, most} {
					yes, e := geometry.Near(a, b, c, r)
					beside("Near", yes, e)
					for _, d := range points {
						yes, e = geometry.Close(a, b, c, d, r)
						beside("Close", yes, e)
						n, e = geometry.Meet(a, b, c, d)
						beside("Meet", n != 0, e)
					}
				}
			}
		}
	}
}

func TestP1_ArgumentsAreKept(t *testing.T) {
	l := make([]api.Point, 0, 8)
	l = append(l, at(5, 9), at(9, 5), at(1, 5), at(7, 5))
	spare := l[:8]
	spare[4], spare[5] = at(3, 3), at(-1, -1)
	kept := slices.Clone(spare)
	for range 2 {
		order, e := geometry.Order(at(5, 5), l)
		if !slices.Equal(order, []int{3, 1, 0, 2}) || e != api.OK {
			t.Error(order, e)
		}
		// The result is the caller's: what is done with it does not show in later ones.
		clear(order)
	}
	if !slices.Equal(spare, kept) {
		t.Error("arguments were changed")
	}
}

func TestP7_1_Check(t *testing.T) {
	for _, p := range outside() {
		if e := geometry.Check(p); e != api.ErrRange {
			t.Error(p, e)
		}
	}
	for _, p := range []api.Point{at(0, 0), at(far, far), at(0, far), at(far, 0), at(17, 4)} {
		if e := geometry.Check(p); e != api.OK {
			t.Error(p, e)
		}
	}
}

// TestP7_1_First finds that an invalid point, wherever it is given, comes before all other errors but that of a list that is too long.
func TestP7_1_First(t *testing.T) {
	same := at(1, 1)
	for _, p := range outside() {
		for place := range 4 {
			l := []api.Point{same, same, same, same}
			l[place] = p
			a, b, c, d := l[0], l[1], l[2], l[3]
			_, meet := geometry.Meet(a, b, c, d)
			_, closeTo := geometry.Close(a, b, c, d, 1)
			_, order := geometry.Order(a, []api.Point{b, c, d})
			errors := []int{meet, closeTo, order}
			if place < 3 {
				_, cross := geometry.Cross(a, b, c)
				_, orient := geometry.Orient(a, b, c)
				_, on := geometry.OnSegment(a, b, c)
				_, near := geometry.Near(a, b, c, 1)
				errors = append(errors, cross, orient, on, near)
			}
			if place < 2 {
				_, dist2 := geometry.Dist2(a, b)
				_, length := geometry.Length(a, b)
				errors = append(errors, dist2, length)
			}
			for i, e := range errors {
				if e != api.ErrRange {
					t.Error(p, place, i, e)
				}
			}
		}
	}
}

func TestP7_1_CrossAndOrient(t *testing.T) {
	for _, x := range []struct {
		a, b, c api.Point
		want    int
	}{
		{at(0, 0), at(4, 0), at(0, 3), 12},
		{at(0, 0), at(0, 3), at(4, 0), -12},
		{at(1, 1), at(2, 2), at(5, 5), 0},
		{at(3, 3), at(3, 3), at(1, 2), 0},
		{at(1, 2), at(3, 3), at(3, 3), 0},
		{at(1, 0), at(3, 1), at(2, 3), 5},
		{at(0, 0), at(far, 0), at(far, far), far * far},
		{at(0, far), at(far, 0), at(0, 0), -far * far},
		{at(0, 0), at(far, far-1), at(far-1, far-2), -1},
		{at(0, 0), at(far-1, far-2), at(far, far-1), 1},
	} {
		if n, e := geometry.Cross(x.a, x.b, x.c); n != x.want || e != api.OK {
			t.Error("Cross", x, n, e)
		}
		if n, e := geometry.Orient(x.a, x.b, x.c); n != cmp.Compare(x.want, 0) || e != api.OK {
			t.Error("Orient", x, n, e)
		}
	}
}

func TestP7_1_Lengths(t *testing.T) {
	for _, x := range []struct {
		a, b  api.Point
		dist2 int
		span  api.Span
	}{
		{at(0, 0), at(3, 4), 25, api.Span{Lo: 5, Hi: 5}},
		{at(3, 4), at(0, 0), 25, api.Span{Lo: 5, Hi: 5}},
		{at(0, 0), at(1, 1), 2, api.Span{Lo: 1, Hi: 2}},
		{at(7, 7), at(7, 7), 0, api.Span{}},
		{at(7, 7), at(6, 7), 1, api.Span{Lo: 1, Hi: 1}},
		{at(0, 0), at(1, 2), 5, api.Span{Lo: 2, Hi: 3}},
		{at(0, 0), at(2, 2), 8, api.Span{Lo: 2, Hi: 3}},
		{at(0, 5), at(far, 5), far * far, api.Span{Lo: far, Hi: far}},
		{at(0, 0), at(far, 1), far*far + 1, api.Span{Lo: far, Hi: far + 1}},
		{at(0, far), at(far, 0), 2 * far * far, api.Span{Lo: 141421, Hi: 141422}},
	} {
		if n, e := geometry.Dist2(x.a, x.b); n != x.dist2 || e != api.OK {
			t.Error("Dist2", x, n, e)
		}
		if s, e := geometry.Length(x.a, x.b); s != x.span || e != api.OK {
			t.Error("Length", x, s, e)
		}
	}
}

// TestP7_1_Definitions follows the definitions with points of the whole map.
func TestP7_1_Definitions(t *testing.T) {
	r := rand.New(rand.NewPCG(7, 1))
	product := func(p, q api.Point) int { return p.X*q.Y - p.Y*q.X }
	for range 20000 {
		a, b, c, _ := four(r)
		want := product(a, b) + product(b, c) + product(c, a)
		if n, e := geometry.Cross(a, b, c); n != want || e != api.OK {
			t.Fatal("Cross", a, b, c, n, e)
		}
		if n, e := geometry.Orient(a, b, c); n != cmp.Compare(want, 0) || e != api.OK {
			t.Fatal("Orient", a, b, c, n, e)
		}
		d, e := geometry.Dist2(a, b)
		if x, y := a.X-b.X, a.Y-b.Y; d != x*x+y*y || e != api.OK {
			t.Fatal("Dist2", a, b, d, e)
		}
		s, e := geometry.Length(a, b)
		if e != api.OK || s.Lo < 0 || s.Lo*s.Lo > d || (s.Lo+1)*(s.Lo+1) <= d || s.Hi*s.Hi < d || s.Hi > 0 && (s.Hi-1)*(s.Hi-1) >= d {
			t.Fatal("Length", a, b, s, e)
		}
	}
}

// walk is the part of the way from one point to another, from 0 to 1, on which conditions hold.
type walk struct {
	from, to *big.Rat
}

func whole() *walk {
	return &walk{big.NewRat(0, 1), big.NewRat(1, 1)}
}

// keep keeps the part where a number that grows evenly from start to end is from low to high.
func (w *walk) keep(start, end, low, high int) {
	if end < start {
		start, end, low, high = -start, -end, -high, -low
	}
	if start == end {
		if start < low || start > high {
			w.from, w.to = big.NewRat(2, 1), big.NewRat(-2, 1)
		}
		return
	}
	first, last := big.NewRat(int64(low-start), int64(end-start)), big.NewRat(int64(high-start), int64(end-start))
	if w.from.Cmp(first) < 0 {
		w.from = first
	}
	if w.to.Cmp(last) > 0 {
		w.to = last
	}
}

// value returns the number that grows from start to end where the part begins.
func (w *walk) value(start, end int) *big.Rat {
	n := new(big.Rat).Mul(w.from, big.NewRat(int64(end-start), 1))
	return n.Add(n, big.NewRat(int64(start), 1))
}

func isEither(n *big.Rat, a, b int) bool {
	return n.Cmp(big.NewRat(int64(a), 1)) == 0 || n.Cmp(big.NewRat(int64(b), 1)) == 0
}

// products returns the cross product and the dot product of the ways from a to b and from a to c.
func products(a, b, c api.Point) (int, int) {
	return (b.X-a.X)*(c.Y-a.Y) - (b.Y-a.Y)*(c.X-a.X), (b.X-a.X)*(c.X-a.X) + (b.Y-a.Y)*(c.Y-a.Y)
}

// wantOn walks over the segment and looks for the point.
func wantOn(p, a, b api.Point) bool {
	w := whole()
	w.keep(a.X, b.X, p.X, p.X)
	w.keep(a.Y, b.Y, p.Y, p.Y)
	return w.from.Cmp(w.to) <= 0
}

// wantMeet walks over the first segment, and finds which part of it belongs to the second one.
func wantMeet(a, b, c, d api.Point) int {
	crossA, dotA := products(c, d, a)
	crossB, dotB := products(c, d, b)
	_, length := products(c, d, d)
	w := whole()
	w.keep(crossA, crossB, 0, 0)
	w.keep(dotA, dotB, 0, length)
	switch c := w.from.Cmp(w.to); {
	case c > 0:
		return api.SegmentsApart
	case c < 0:
		return api.SegmentsOverlap
	}
	if isEither(w.from, 0, 1) || isEither(w.value(dotA, dotB), 0, length) {
		return api.SegmentsTouch
	}
	return api.SegmentsCross
}

// wantDist2 returns the square of the least distance of a point from the points of a segment.
func wantDist2(p, a, b api.Point) *big.Rat {
	_, length := products(a, b, b)
	_, place := products(a, b, p)
	part := big.NewRat(0, 1)
	if length > 0 {
		part = big.NewRat(int64(min(max(place, 0), length)), int64(length))
	}
	w := &walk{from: part}
	x, y := w.value(a.X-p.X, b.X-p.X), w.value(a.Y-p.Y, b.Y-p.Y)
	return new(big.Rat).Add(x.Mul(x, x), y.Mul(y, y))
}

// wantCloseness returns the square of the least distance of two segments.
func wantCloseness(a, b, c, d api.Point) *big.Rat {
	if wantMeet(a, b, c, d) != api.SegmentsApart {
		return new(big.Rat)
	}
	return slices.MinFunc([]*big.Rat{wantDist2(a, c, d), wantDist2(b, c, d), wantDist2(c, a, b), wantDist2(d, a, b)}, (*big.Rat).Cmp)
}

// rootUp returns the least integer whose square is not below a number.
func rootUp(n *big.Rat) int {
	r := int(math.Sqrt(float64(new(big.Int).Quo(n.Num(), n.Denom()).Int64())))
	for r > 0 && big.NewRat(int64((r-1)*(r-1)), 1).Cmp(n) >= 0 {
		r--
	}
	for big.NewRat(int64(r*r), 1).Cmp(n) < 0 {
		r++
	}
	return r
}

func TestP7_2_OnSegment(t *testing.T) {
	for _, x := range []struct {
		p, a, b api.Point
		want    bool
	}{
		{at(2, 1), at(0, 0), at(4, 2), true},
		{at(2, 1), at(4, 2), at(0, 0), true},
		{at(0, 0), at(0, 0), at(4, 2), true},
		{at(4, 2), at(0, 0), at(4, 2), true},
		{at(6, 3), at(0, 0), at(4, 2), false},
		{at(0, 0), at(2, 1), at(4, 2), false},
		{at(2, 2), at(0, 0), at(4, 2), false},
		{at(3, 3), at(3, 3), at(3, 3), true},
		{at(3, 4), at(3, 3), at(3, 3), false},
		{at(4, 3), at(3, 3), at(3, 3), false},
		{at(5, 1), at(1, 1), at(4, 1), false},
		{at(1, 5), at(1, 1), at(1, 4), false},
		{at(1, 3), at(1, 4), at(1, 1), true},
		{at(50000, 50000), at(0, 0), at(far, far), true},
		{at(50000, 50001), at(0, 0), at(far, far), false},
		{at(99999, 99998), at(0, 0), at(far, 99999), false},
	} {
		if yes, e := geometry.OnSegment(x.p, x.a, x.b); yes != x.want || e != api.OK {
			t.Error(x, yes, e)
		}
	}
}

func TestP7_2_Meet(t *testing.T) {
	for _, x := range []struct {
		name       string
		a, b, c, d api.Point
		want       int
	}{
		{"cross", at(0, 0), at(4, 4), at(0, 4), at(4, 0), api.SegmentsCross},
		{"an end within", at(0, 0), at(4, 4), at(2, 2), at(5, 0), api.SegmentsTouch},
		{"overlap", at(0, 0), at(4, 0), at(2, 0), at(6, 0), api.SegmentsOverlap},
		{"one behind the other", at(0, 0), at(4, 0), at(4, 0), at(6, 0), api.SegmentsTouch},
		{"a gap on the line", at(0, 0), at(4, 0), at(5, 0), at(6, 0), api.SegmentsApart},
		{"one within the other", at(0, 0), at(9, 3), at(3, 1), at(6, 2), api.SegmentsOverlap},
		{"one within the other, one end the same", at(0, 0), at(9, 3), at(0, 0), at(6, 2), api.SegmentsOverlap},
		{"equal", at(1, 2), at(2, 5), at(1, 2), at(2, 5), api.SegmentsOverlap},
		{"opposite", at(1, 2), at(2, 5), at(2, 5), at(1, 2), api.SegmentsOverlap},
		{"upright overlap", at(1, 2), at(1, 5), at(1, 9), at(1, 4), api.SegmentsOverlap},
		{"upright touch", at(1, 2), at(1, 5), at(1, 9), at(1, 5), api.SegmentsTouch},
		{"upright gap", at(1, 2), at(1, 5), at(1, 9), at(1, 6), api.SegmentsApart},
		{"an end at an end", at(0, 0), at(4, 4), at(4, 4), at(5, 0), api.SegmentsTouch},
		{"parallel", at(0, 0), at(4, 4), at(0, 1), at(4, 5), api.SegmentsApart},
		{"on the line, but not on the segment", at(0, 0), at(4, 4), at(5, 5), at(6, 0), api.SegmentsApart},
		{"the line is crossed outside", at(0, 0), at(4, 4), at(4, 6), at(6, 4), api.SegmentsApart},
		{"both lines are crossed outside", at(0, 0), at(4, 0), at(5, 1), at(7, 3), api.SegmentsApart},
		{"the greatest ones", at(0, 0), at(far, far), at(0, far), at(far, 0), api.SegmentsCross},
		{"a hair apart", at(0, 0), at(far, 99999), at(99999, 99998), at(far, 0), api.SegmentsApart},
		{"a hair across", at(0, 0), at(99999, 99998), at(1, 1), at(far, 99998), api.SegmentsCross},
	} {
		if n, e := geometry.Meet(x.a, x.b, x.c, x.d); n != x.want || e != api.OK {
			t.Error(x.name, n, e)
		}
	}
}

func TestP7_2_Points(t *testing.T) {
	a, b, c := at(1, 1), at(2, 3), at(far, 0)
	for i, l := range [][4]api.Point{{a, a, b, c}, {b, c, a, a}, {a, a, a, a}, {a, a, b, b}} {
		if n, e := geometry.Meet(l[0], l[1], l[2], l[3]); n != 0 || e != api.ErrArg {
			t.Error(i, n, e)
		}
	}
	if n, e := geometry.Meet(a, b, a, b); n != api.SegmentsOverlap || e != api.OK {
		t.Error(n, e)
	}
}

// TestP7_2_Definitions finds the common points of all segments of a small grid, and of some of the whole map.
func TestP7_2_Definitions(t *testing.T) {
	check := func(a, b, c, d api.Point) {
		t.Helper()
		if yes, e := geometry.OnSegment(a, c, d); yes != wantOn(a, c, d) || e != api.OK {
			t.Fatal("OnSegment", a, c, d, yes, e)
		}
		if a == b || c == d {
			return
		}
		if n, e := geometry.Meet(a, b, c, d); n != wantMeet(a, b, c, d) || e != api.OK {
			t.Fatal("Meet", a, b, c, d, n, e)
		}
	}
	points := grid(3, 2)
	for _, a := range points {
		for _, b := range points {
			for _, c := range points {
				for _, d := range points {
					check(a, b, c, d)
				}
			}
		}
	}
	r := rand.New(rand.NewPCG(7, 2))
	for range 20000 {
		check(four(r))
	}
}

func TestP7_3_Near(t *testing.T) {
	a, b := at(0, 0), at(4, 0)
	for _, x := range []struct {
		p, a, b api.Point
		r       int
		want    bool
	}{
		{at(2, 3), a, b, 3, true},
		{at(2, 3), a, b, 2, false},
		{at(6, 2), a, b, 3, true},
		{at(6, 2), a, b, 2, false},
		{at(2, 0), a, b, 0, true},
		{at(4, 0), a, b, 0, true},
		{at(5, 0), a, b, 0, false},
		{at(5, 0), a, b, 1, true},
		{at(1, 1), at(3, 1), at(7, 1), 1, false},
		{at(1, 1), at(3, 1), at(7, 1), 2, true},
		{at(4, 5), a, b, 5, true},
		{at(4, 5), a, b, 4, false},
		{at(4, 5), at(1, 1), at(1, 1), 5, true},
		{at(4, 5), at(1, 1), at(1, 1), 4, false},
		{at(1, 1), at(1, 1), at(1, 1), 0, true},
		{at(far, 0), at(0, 0), at(far, far), 70711, true},
		{at(far, 0), at(0, 0), at(far, far), 70710, false},
		{at(far, 0), at(0, 0), at(0, far), far, true},
		{at(far, 0), at(0, 0), at(0, far), far - 1, false},
		{at(far, far), at(0, 0), at(0, 0), 141422, true},
		{at(far, far), at(0, 0), at(0, 0), 141421, false},
		{at(far, far), at(0, 0), at(1, 1), maxDistance, true},
	} {
		if yes, e := geometry.Near(x.p, x.a, x.b, x.r); yes != x.want || e != api.OK {
			t.Error(x, yes, e)
		}
	}
}

func TestP7_3_Close(t *testing.T) {
	a, b := at(10, 10), at(14, 10)
	for _, x := range []struct {
		name string
		c, d api.Point
		r    int
		want bool
	}{
		{"cross", at(12, 8), at(12, 12), 0, true},
		{"touch", at(12, 10), at(12, 12), 0, true},
		{"overlap", at(12, 10), at(17, 10), 0, true},
		{"apart", at(12, 11), at(12, 13), 0, false},
		{"an end of the second one", at(12, 13), at(12, 18), 3, true},
		{"too far", at(12, 13), at(12, 18), 2, false},
		{"the other end of the second one", at(12, 18), at(12, 13), 3, true},
		{"ends of both", at(16, 12), at(17, 19), 3, true},
		{"too far for ends", at(16, 12), at(17, 19), 2, false},
		{"an end of the first one", at(16, 6), at(16, 19), 2, true},
		{"too far for this end", at(16, 6), at(16, 19), 1, false},
		{"the other end of the first one", at(9, 6), at(9, 19), 1, true},
		{"too far for the other end", at(9, 6), at(9, 19), 0, false},
		{"on the line", at(19, 10), at(30, 10), 5, true},
		{"too far on the line", at(19, 10), at(30, 10), 4, false},
		{"parallel", at(0, 13), at(30, 13), 3, true},
		{"too far beside", at(0, 13), at(30, 13), 2, false},
		{"the greatest distance", at(far, far), at(far, 0), maxDistance, true},
	} {
		for i, l := range [][4]api.Point{{a, b, x.c, x.d}, {b, a, x.c, x.d}, {x.c, x.d, a, b}, {x.d, x.c, b, a}} {
			if yes, e := geometry.Close(l[0], l[1], l[2], l[3], x.r); yes != x.want || e != api.OK {
				t.Error(x.name, i, yes, e)
			}
		}
	}
}

func TestP7_3_Errors(t *testing.T) {
	a, b, c := at(1, 1), at(2, 3), at(far, 0)
	for _, r := range []int{least, -1, maxDistance + 1, most} {
		for i, l := range [][4]api.Point{{a, b, b, c}, {a, b, a, b}} {
			if yes, e := geometry.Close(l[0], l[1], l[2], l[3], r); yes || e != api.ErrRange {
				t.Error(r, i, yes, e)
			}
		}
		for i, l := range [][4]api.Point{{a, a, b, c}, {b, c, a, a}, {a, a, a, a}} {
			if yes, e := geometry.Close(l[0], l[1], l[2], l[3], r); yes || e != api.ErrArg {
				t.Error(r, i, yes, e)
			}
			if yes, e := geometry.Near(l[0], l[1], l[2], r); yes || e != api.ErrRange {
				t.Error(r, i, yes, e)
			}
		}
	}
	if yes, e := geometry.Close(a, a, b, c, 5); yes || e != api.ErrArg {
		t.Error(yes, e)
	}
	if yes, e := geometry.Close(b, c, a, a, 5); yes || e != api.ErrArg {
		t.Error(yes, e)
	}
}

// TestP7_3_Definitions finds the least distance for which Near and Close hold, on a small grid and in the whole map.
func TestP7_3_Definitions(t *testing.T) {
	check := func(a, b, c, d api.Point) {
		t.Helper()
		r := rootUp(wantDist2(a, c, d))
		for _, x := range []int{r - 2, r - 1, r, r + 1, maxDistance} {
			if yes, e := geometry.Near(a, c, d, max(x, 0)); yes != (max(x, 0) >= r) || e != api.OK {
				t.Fatal("Near", a, c, d, x, yes, e)
			}
		}
		if a == b || c == d {
			return
		}
		r = rootUp(wantCloseness(a, b, c, d))
		for _, x := range []int{r - 2, r - 1, r, r + 1, maxDistance} {
			if yes, e := geometry.Close(a, b, c, d, max(x, 0)); yes != (max(x, 0) >= r) || e != api.OK {
				t.Fatal("Close", a, b, c, d, x, yes, e)
			}
		}
	}
	points := append(grid(2, 2), at(7, 0), at(5, 6))
	for _, a := range points {
		for _, b := range points {
			for _, c := range points {
				for _, d := range points {
					check(a, b, c, d)
				}
			}
		}
	}
	r := rand.New(rand.NewPCG(7, 3))
	for range 10000 {
		check(four(r))
	}
}

func TestP7_4_Order(t *testing.T) {
	o := at(5, 5)
	for _, x := range []struct {
		name string
		l    []api.Point
		want []int
	}{
		{"of the chapter", []api.Point{at(5, 9), at(9, 5), at(1, 5), at(7, 5)}, []int{3, 1, 0, 2}},
		{"none", nil, nil},
		{"one", []api.Point{at(0, 0)}, []int{0}},
		{"all around", []api.Point{at(6, 4), at(5, 4), at(4, 4), at(4, 5), at(4, 6), at(5, 6), at(6, 6), at(6, 5)}, []int{7, 6, 5, 4, 3, 2, 1, 0}},
		{"the same point again", []api.Point{at(5, 0), at(6, 6), at(5, 0), at(6, 6), at(7, 7)}, []int{1, 3, 4, 0, 2}},
		{"nearer ones first, in all directions", []api.Point{at(1, 5), at(3, 5), at(5, 9), at(5, 8), at(5, 1), at(5, 2), at(9, 5), at(8, 5)}, []int{7, 6, 3, 2, 1, 0, 5, 4}},
		{"nearer ones first, aslant", []api.Point{at(9, 9), at(7, 7), at(1, 1), at(3, 3), at(1, 9), at(3, 7), at(9, 1), at(7, 3)}, []int{1, 0, 5, 4, 3, 2, 7, 6}},
		{"just below the first direction", []api.Point{at(far, 4), at(far, 5), at(far, 6)}, []int{1, 2, 0}},
		{"around half a turn", []api.Point{at(0, 4), at(0, 5), at(0, 6)}, []int{2, 1, 0}},
	} {
		if got, e := geometry.Order(o, x.l); !slices.Equal(got, x.want) || e != api.OK {
			t.Error(x.name, got, e)
		}
	}
	if got, e := geometry.Order(at(0, 0), []api.Point{at(99998, 99997), at(far, 99999), at(99999, 99998), at(0, far), at(far, 0)}); !slices.Equal(got, []int{4, 0, 2, 1, 3}) || e != api.OK {
		t.Error("close directions", got, e)
	}
}

func TestP7_4_Errors(t *testing.T) {
	o := at(5, 5)
	full := slices.Repeat([]api.Point{at(1, 2)}, api.MaxPoints)
	if got, e := geometry.Order(o, full); len(got) != api.MaxPoints || got[0] != 0 || got[api.MaxPoints-1] != api.MaxPoints-1 || e != api.OK {
		t.Error("as many as there may be", got, e)
	}
	many := append(slices.Clone(full), at(-1, 0))
	many[3] = o
	for i, x := range []struct {
		o api.Point
		l []api.Point
		e int
	}{
		{o, append(slices.Clone(full), at(1, 2)), api.ErrLimit},
		{o, many, api.ErrLimit},
		{at(-1, 0), many, api.ErrLimit},
		{at(-1, 0), full, api.ErrRange},
		{at(0, far+1), nil, api.ErrRange},
		{o, []api.Point{o, at(far+1, 0)}, api.ErrRange},
		{o, []api.Point{at(0, -1), o}, api.ErrRange},
		{o, []api.Point{at(0, 1), o}, api.ErrArg},
		{o, []api.Point{o}, api.ErrArg},
		{o, []api.Point{o, at(5, 6)}, api.ErrArg},
	} {
		if got, e := geometry.Order(x.o, x.l); got != nil || e != x.e {
			t.Error(i, got, e)
		}
	}
}

// angle returns the direction from a point to another one, from 0 to below a full turn: exact enough to tell all directions of the map apart.
func angle(o, p api.Point) float64 {
	a := math.Atan2(float64(p.Y-o.Y), float64(p.X-o.X))
	if a < 0 {
		a += 2 * math.Pi
	}
	return a
}

// TestP7_4_Definition compares each two neighbours in the order by their angles.
func TestP7_4_Definition(t *testing.T) {
	r := rand.New(rand.NewPCG(7, 4))
	for round := range 3000 {
		s := &source{r: r}
		o := s.point()
		if round%2 == 0 {
			o = at(3, 3)
		}
		var l []api.Point
		for len(l) < 1+round%api.MaxPoints {
			p := s.point()
			if round%2 == 0 {
				p = at(r.IntN(7), r.IntN(7))
			}
			if p != o {
				l = append(l, p)
			}
		}
		got, e := geometry.Order(o, l)
		if len(got) != len(l) || e != api.OK {
			t.Fatal(o, l, got, e)
		}
		for k := 1; k < len(got); k++ {
			i, j := got[k-1], got[k]
			p, q := l[i], l[j]
			_, first := products(o, p, p)
			_, second := products(o, q, q)
			if cmp.Or(cmp.Compare(angle(o, p), angle(o, q)), cmp.Compare(first, second), cmp.Compare(i, j)) >= 0 {
				t.Fatal(o, l, got, i, j)
			}
		}
	}
}

// TestP7_5_Cross rotates and exchanges points, and adds the triangles of a quadrangle.
func TestP7_5_Cross(t *testing.T) {
	r := rand.New(rand.NewPCG(7, 5))
	cross := func(a, b, c api.Point) int {
		n, e := geometry.Cross(a, b, c)
		if e != api.OK {
			t.Fatal(a, b, c, e)
		}
		return n
	}
	for range 20000 {
		a, b, c, d := four(r)
		n := cross(a, b, c)
		if cross(b, c, a) != n || cross(c, a, b) != n || cross(b, a, c) != -n || cross(a, c, b) != -n || cross(c, b, a) != -n {
			t.Fatal(a, b, c, n)
		}
		if cross(a, b, c)+cross(a, c, d) != cross(a, b, d)+cross(b, c, d) {
			t.Fatal(a, b, c, d)
		}
	}
}

// TestP7_5_Distances finds that segments meet exactly if they are close for 0, that greater distances are near, too, and that a way over a third point is not shorter.
func TestP7_5_Distances(t *testing.T) {
	r := rand.New(rand.NewPCG(7, 6))
	meetings := 0
	for range 20000 {
		a, b, c, d := four(r)
		if a != b && c != d {
			n, e := geometry.Meet(a, b, c, d)
			yes, f := geometry.Close(a, b, c, d, 0)
			if yes != (n != api.SegmentsApart) || e != api.OK || f != api.OK {
				t.Fatal(a, b, c, d, n, yes, e, f)
			}
			if yes {
				meetings++
			}
		}
		low, high := r.IntN(maxDistance+1), r.IntN(maxDistance+1)
		narrow, _ := geometry.Near(a, b, c, min(low, high))
		wide, _ := geometry.Near(a, b, c, max(low, high))
		if narrow && !wide {
			t.Fatal(a, b, c, low, high)
		}
		ab, _ := geometry.Length(a, b)
		bc, _ := geometry.Length(b, c)
		ac, _ := geometry.Length(a, c)
		if ac.Lo > ab.Hi+bc.Hi {
			t.Fatal(a, b, c)
		}
	}
	if meetings < 2000 {
		t.Error("only", meetings)
	}
}
