package landbook_test

import (
	"cmp"
	"math/rand/v2"
	"slices"
	"testing"

	"coupe/api"
	"coupe/cadastre"
	"coupe/landbook"
	"coupe/polygon"
)

// field is a map of squares, of which it is known what belongs to which stand.
type field struct {
	columns, rows int
	width         int
	turn          [4]int // what the points are multiplied by
	regions       []int  // of the squares, row by row; -1 for the outside
}

// region returns the region of a square, also beside the field.
func (f field) region(column, row int) int {
	if column < 0 || row < 0 || column >= f.columns || row >= f.rows {
		return -1
	}
	return f.regions[row*f.columns+column]
}

// stands returns how many stands there are.
func (f field) stands() int {
	return slices.Max(f.regions) + 1
}

// area2 returns twice the area of a stand.
func (f field) area2(stand int) int {
	count := 0
	for _, region := range f.regions {
		if region == stand {
			count++
		}
	}
	return 2 * count * f.width * f.width * (f.turn[0]*f.turn[3] - f.turn[1]*f.turn[2])
}

// point returns the place of a corner of squares, or of a point between them, in parts of a square.
func (f field) point(x, y int) api.Point {
	return at(f.turn[0]*x+f.turn[1]*y+500, f.turn[2]*x+f.turn[3]*y+500)
}

// drawn returns the map of a field, with points and edges in any order, and in any direction.
func (f field) drawn(r *rand.Rand) api.Map {
	m := api.Map{Stands: f.stands()}
	corners := f.columns + 1
	order := r.Perm(corners * (f.rows + 1))
	for _, i := range order {
		m.Points = append(m.Points, f.point(i%corners*f.width, i/corners*f.width))
	}
	add := func(a, b, left, right int) {
		a, b = slices.Index(order, a), slices.Index(order, b)
		switch {
		case left == right:
		case r.IntN(2) == 0:
			m.Edges = append(m.Edges, edge(a, b, left, right))
		default:
			m.Edges = append(m.Edges, edge(b, a, right, left))
		}
	}
	for i := range order {
		column, row := i%corners, i/corners
		if column < f.columns {
			add(i, i+1, f.region(column, row), f.region(column, row-1))
		}
		if row < f.rows {
			add(i, i+corners, f.region(column-1, row), f.region(column, row))
		}
	}
	r.Shuffle(len(m.Edges), func(i, j int) { m.Edges[i], m.Edges[j] = m.Edges[j], m.Edges[i] })
	return m
}

// numbered gives regions that occur the numbers from 0 on.
func numbered(regions []int) []int {
	used := slices.DeleteFunc(slices.Compact(slices.Sorted(slices.Values(regions))), func(x int) bool { return x < 0 })
	var l []int
	for _, region := range regions {
		l = append(l, slices.Index(used, region))
	}
	return l
}

// meadow returns a random field.
func meadow(r *rand.Rand) field {
	turns := [][4]int{{1, 0, 0, 1}, {0, -1, 1, 0}, {-1, 0, 0, -1}, {0, 1, -1, 0}, {1, 1, 0, 1}, {1, 0, 1, 1}, {2, 1, 1, 1}, {1, -1, 1, 1}}
	for {
		f := field{columns: 1 + r.IntN(5), rows: 1 + r.IntN(5), width: 1 + r.IntN(12), turn: turns[r.IntN(len(turns))]}
		kinds := 1 + r.IntN(1+r.IntN(9))
		for range f.columns * f.rows {
			f.regions = append(f.regions, r.IntN(kinds+1)-1)
		}
		if r.IntN(2) == 0 { // fewer, greater regions
			for i := range f.regions {
				f.regions[i] = f.regions[i/2]
			}
		}
		if f.regions = numbered(f.regions); slices.Max(f.regions) >= 0 {
			return f
		}
	}
}

// regroup returns a field with the same land, in which other squares are together, and the parents of its stands: those that have land in common with them.
func (f field) regroup(r *rand.Rand) (field, [][]int) {
	g := f
	g.regions = slices.Clone(f.regions)
	kinds := r.IntN(4)
	for i, region := range f.regions {
		switch {
		case region < 0:
		case kinds == 0: // all is shared out anew
			g.regions[i] = r.IntN(6)
		case kinds == 1 || region > 0: // stands are united
			g.regions[i] = region / (1 + kinds)
		case kinds > 1: // a stand is divided
			g.regions[i] = 20 + r.IntN(2)
		}
	}
	g.regions = numbered(g.regions)
	from := make([][]int, g.stands())
	for i, region := range g.regions {
		if region >= 0 {
			from[region] = append(from[region], f.regions[i])
		}
	}
	for i := range from {
		from[i] = slices.Compact(slices.Sorted(slices.Values(from[i])))
	}
	return g, from
}

// holders are all owners of random versions.
var holders = []int{0, 1, 2, 100}

// owners returns random owners.
func owners(r *rand.Rand, count int) []int {
	var l []int
	for range count {
		l = append(l, holders[r.IntN(len(holders))])
	}
	return l
}

// history returns a book of a field that is regrouped some times.
func history(r *rand.Rand) []api.Version {
	f := meadow(r)
	l := []api.Version{version(r.IntN(9), f.drawn(r), nil, owners(r, f.stands())...)}
	for range r.IntN(6) {
		g, from := f.regroup(r)
		l = append(l, version(l[len(l)-1].Day+1+r.IntN(3), g.drawn(r), from, owners(r, g.stands())...))
		f = g
	}
	return l
}

// disturb changes a day, an owner, or the parents of a stand, which often makes an error.
func disturb(r *rand.Rand, v *api.Version) {
	if len(v.Owner) == 0 || r.IntN(3) == 0 {
		switch r.IntN(3) {
		case 0:
			v.Day += r.IntN(5) - 2
		case 1:
			v.Owner = append(v.Owner, 0)[r.IntN(2):]
		default:
			v.Owner = append(slices.Clone(v.Owner), r.IntN(3)-1)[1:]
		}
		return
	}
	if len(v.From) == 0 || slices.ContainsFunc(v.From, func(parents []int) bool { return len(parents) == 0 }) {
		return
	}
	i := r.IntN(len(v.From))
	switch r.IntN(5) {
	case 0:
		v.From[i] = v.From[i][1:]
	case 1:
		v.From[i] = append(v.From[i], r.IntN(5))
	case 2:
		v.From[0], v.From[i] = v.From[i], v.From[0]
	default: // a parent of another stand
		other := v.From[r.IntN(len(v.From))]
		v.From[i] = []int{other[r.IntN(len(other))]}
	}
}

// TestP18_1_Definition compares the errors of books with those that the chapter says, also of books that were changed.
func TestP18_1_Definition(t *testing.T) {
	r := rand.New(rand.NewPCG(18, 2))
	found := map[int]int{}
	for range 3000 {
		l := history(r)
		if e := landbook.Check(l); e != api.OK {
			t.Fatal(l, e)
		}
		for range r.IntN(3) {
			disturb(r, &l[r.IntN(len(l))])
		}
		want := expected(l)
		found[want]++
		if e := landbook.Check(l); e != want {
			t.Fatal(l, e, want)
		}
	}
	for _, e := range []int{api.OK, api.ErrRange, api.ErrForm, api.ErrOrder, api.ErrSum} {
		if found[e] < 50 {
			t.Error("too few books with the error", e, found)
		}
	}
}

// TestP18_2_Definitions adds versions one by one, and looks for days one by one.
func TestP18_2_Definitions(t *testing.T) {
	r := rand.New(rand.NewPCG(18, 3))
	for range 200 {
		l := history(r)
		book := l[:1:1]
		for _, v := range l[1:] {
			longer, e := landbook.Add(book, v)
			if e != api.OK {
				t.Fatal(book, v, e)
			}
			book = longer
		}
		if !sameBook(book, l) {
			t.Fatal(book, l)
		}
		for day := l[0].Day - 2; day <= l[len(l)-1].Day+2; day++ {
			count := 0
			for _, v := range l {
				if v.Day <= day {
					count++
				}
			}
			n, e := landbook.At(l, day)
			if count == 0 && (n != 0 || e != api.ErrNone) || count > 0 && (n != count-1 || e != api.OK) {
				t.Fatal(l, day, n, e, count)
			}
		}
	}
}

// TestP18_3_Definition compares Merge with fields in which the squares of one stand belong to another one.
func TestP18_3_Definition(t *testing.T) {
	r := rand.New(rand.NewPCG(18, 4))
	merged := 0
	for range 400 {
		f := meadow(r)
		m := f.drawn(r)
		for a := range m.Stands {
			for b := range m.Stands {
				if a == b {
					continue
				}
				merged++
				g := f
				g.regions = slices.Clone(f.regions)
				for i, region := range g.regions {
					if region == max(a, b) {
						g.regions[i] = min(a, b)
					} else if region > max(a, b) {
						g.regions[i]--
					}
				}
				one, from, e := landbook.Merge(m, a, b)
				if e != api.OK || !cadastre.Same(one, g.drawn(r)) || !slices.Equal(one.Points, m.Points) {
					t.Fatal(m, a, b, one, e)
				}
				checkMerged(t, m, a, b, one, from)
			}
		}
	}
	if merged < 1000 {
		t.Error("only", merged, "maps")
	}
}

// checkMerged finds that edges stay in their order, and that stands know where they come from.
func checkMerged(t *testing.T, m api.Map, a, b int, one api.Map, from [][]int) {
	t.Helper()
	kept := slices.DeleteFunc(slices.Clone(m.Edges), func(e api.Edge) bool {
		return min(e.Left, e.Right) == min(a, b) && max(e.Left, e.Right) == max(a, b)
	})
	if len(kept) != len(one.Edges) || len(from) != m.Stands-1 {
		t.Fatal(m, a, b, one, from)
	}
	for i, e := range one.Edges {
		for _, x := range [][2]int{{e.Left, kept[i].Left}, {e.Right, kept[i].Right}} {
			if x[0] < 0 && x[1] >= 0 || x[0] >= 0 && !slices.Contains(from[x[0]], x[1]) {
				t.Fatal(m, a, b, one, from)
			}
		}
		if e.A != kept[i].A || e.B != kept[i].B {
			t.Fatal(m, a, b, one, from)
		}
	}
	for stand, parents := range from {
		if want := []int{a, b}; stand == min(a, b) {
			if slices.Sort(want); !slices.Equal(parents, want) {
				t.Fatal(m, a, b, from)
			}
		} else if area2 := areas(one)[stand]; len(parents) != 1 || area2 != areas(m)[parents[0]] {
			t.Fatal(m, a, b, from)
		}
	}
}

// side is an edge of a boundary, from one point to another one, with the stand on the left.
type side struct{ edge, from, to int }

// round returns the sides of a stand in their order, if its boundary is simple, beginning anywhere.
func round(m api.Map, stand int) ([]side, bool) {
	var sides []side
	ends := make([]int, len(m.Points))
	for i, e := range m.Edges {
		if (e.Left == stand) == (e.Right == stand) {
			continue
		}
		ends[e.A]++
		ends[e.B]++
		if e.Left == stand {
			sides = append(sides, side{i, e.A, e.B})
		} else {
			sides = append(sides, side{i, e.B, e.A})
		}
	}
	if slices.ContainsFunc(ends, func(n int) bool { return n != 0 && n != 2 }) {
		return nil, false
	}
	ring := sides[:1:1]
	for ring[len(ring)-1].to != ring[0].from {
		i := slices.IndexFunc(sides, func(s side) bool { return s.from == ring[len(ring)-1].to })
		ring = append(ring, sides[i])
	}
	return ring, len(ring) == len(sides)
}

// split returns what Split has to, for a stand of a valid map.
func split(m api.Map, stand int, way []api.Point) (api.Map, int) {
	ring, simple := round(m, stand)
	if len(way) < 2 || len(way) > 10 || !simple {
		return api.Map{}, api.ErrForm
	}
	place := func(p api.Point) int {
		return slices.IndexFunc(ring, func(s side) bool { return m.Points[s.from] == p })
	}
	first, last := place(way[0]), place(way[len(way)-1])
	if first < 0 || last < 0 || first == last {
		return api.Map{}, api.ErrForm
	}
	d := api.Map{Points: slices.Clone(m.Points), Edges: slices.Clone(m.Edges), Stands: m.Stands + 1}
	numbers := []int{ring[first].from}
	for _, p := range way[1 : len(way)-1] {
		if slices.Contains(d.Points, p) {
			return api.Map{}, api.ErrForm
		}
		numbers = append(numbers, len(d.Points))
		d.Points = append(d.Points, p)
	}
	numbers = append(numbers, ring[last].from)
	for _, s := range append(ring, ring...)[first : first+(last-first+len(ring))%len(ring)] {
		if e := &d.Edges[s.edge]; e.A == s.from {
			e.Left = m.Stands
		} else {
			e.Right = m.Stands
		}
	}
	for i, b := range numbers[1:] {
		d.Edges = append(d.Edges, edge(numbers[i], b, stand, m.Stands))
	}
	if m.Stands > 15 || len(d.Points) > 64 || len(d.Edges) > 128 {
		return api.Map{}, api.ErrLimit
	}
	if e := cadastre.Check(d); e != api.OK {
		return api.Map{}, e
	}
	return d, api.OK
}

// chainOf returns a chain from a point of the boundary of a stand to another one, through places inside of squares of the stand, or elsewhere.
func (f field) chainOf(r *rand.Rand, m api.Map, stand int) []api.Point {
	var ends, inner []api.Point
	for _, e := range m.Edges {
		if e.Left == stand || e.Right == stand {
			ends = append(ends, m.Points[e.A], m.Points[e.B])
		}
	}
	elsewhere := r.IntN(5) == 0
	for row := -1; row <= f.rows; row++ {
		for column := -1; column <= f.columns; column++ {
			if (f.region(column, row) != stand) == elsewhere {
				inner = append(inner, f.point(column*f.width+r.IntN(f.width+1), row*f.width+r.IntN(f.width+1)))
			}
		}
	}
	way := []api.Point{ends[r.IntN(len(ends))]}
	for range r.IntN(4) {
		way = append(way, inner[r.IntN(len(inner))])
	}
	way = append(way, ends[r.IntN(len(ends))])
	if r.IntN(40) == 0 {
		way[r.IntN(len(way))] = m.Points[r.IntN(len(m.Points))]
	}
	return way
}

// TestP18_4_Definition compares Split with the chapter's own words, and finds where the parts lie.
func TestP18_4_Definition(t *testing.T) {
	r := rand.New(rand.NewPCG(18, 5))
	found := map[int]int{}
	for range 2500 {
		f := meadow(r)
		m := f.drawn(r)
		for range 8 {
			stand := r.IntN(m.Stands)
			way := f.chainOf(r, m, stand)
			want, g := split(m, stand, way)
			found[g]++
			d, from, e := landbook.Split(m, stand, way)
			if e != g || !sameMap(d, want) {
				t.Fatal(m, stand, way, d, e, want, g)
			}
			if e != api.OK {
				continue
			}
			for i, parents := range from {
				if parent := min(i, m.Stands); parent == m.Stands && parents[0] != stand || parent < m.Stands && parents[0] != i || len(parents) != 1 {
					t.Fatal(m, stand, way, from)
				}
			}
			if len(from) != d.Stands {
				t.Fatal(m, stand, way, from)
			}
			checkParts(t, m, stand, way, d)
		}
	}
	for _, e := range []int{api.OK, api.ErrForm, api.ErrExist, api.ErrOrder, api.ErrConflict} {
		if found[e] < 100 {
			t.Error("too few chains with the error", e, found)
		}
	}
}

// checkParts finds that the parts are what lies between the chain and the boundary: on the left the one that keeps the number, on the right the other one.
func checkParts(t *testing.T, m api.Map, stand int, way []api.Point, d api.Map) {
	t.Helper()
	ring, _ := round(m, stand)
	arc := func(from, to api.Point) []api.Point {
		first := slices.IndexFunc(ring, func(s side) bool { return m.Points[s.from] == from })
		var l []api.Point
		for i := first; m.Points[ring[i%len(ring)].from] != to; i++ {
			l = append(l, m.Points[ring[i%len(ring)].from])
		}
		return l
	}
	first, last := way[0], way[len(way)-1]
	back := slices.Clone(way[1:])
	slices.Reverse(back)
	left := append(slices.Clone(way[:len(way)-1]), arc(last, first)...)
	right := append(back, arc(first, last)...)
	for part, points := range map[int][]api.Point{stand: left, m.Stands: right} {
		area2, e := polygon.Area2(points)
		turning, _ := polygon.Direction(points)
		if e != api.OK || turning != 1 || area2 != areas(d)[part] {
			t.Fatal(m, stand, way, d, part, points, area2, turning, e)
		}
		if n := must(cadastre.Parts(d, part)); n != 1 {
			t.Fatal(m, stand, way, d, part, n)
		}
	}
}

// TestP2_Undone finds that dividing and merging undo each other, and leave other stands alone.
func TestP2_Undone(t *testing.T) {
	r := rand.New(rand.NewPCG(18, 6))
	divided := 0
	for range 2000 {
		f := meadow(r)
		m := f.drawn(r)
		stand := r.IntN(m.Stands)
		way := f.chainOf(r, m, stand)
		d, _, e := landbook.Split(m, stand, way)
		if e != api.OK {
			continue
		}
		divided++
		parts := areas(d)
		for i, area2 := range areas(m) {
			if want := f.area2(i); area2 != want || i != stand && parts[i] != want || i == stand && parts[i]+parts[m.Stands] != want {
				t.Fatal(m, stand, way, parts)
			}
		}
		one, from, e := landbook.Merge(d, m.Stands, stand)
		if e != api.OK || !cadastre.Same(one, m) || !slices.Equal(one.Edges, m.Edges) || !slices.Equal(one.Points[:len(m.Points)], m.Points) || !slices.Equal(from[stand], []int{stand, m.Stands}) {
			t.Fatal(m, stand, way, one, from, e)
		}
		again, _, e := landbook.Split(m, stand, way)
		if e != api.OK || !cadastre.Same(again, d) {
			t.Fatal(m, stand, way, again, e)
		}
	}
	if divided < 300 {
		t.Error("only", divided, "maps were divided")
	}
}

// lineage returns which stands of a version come from which stands of an earlier one, way by way.
func lineage(l []api.Version, version, stand, earlier int) map[int]bool {
	if version == earlier {
		return map[int]bool{stand: true}
	}
	found := map[int]bool{}
	for _, parent := range l[version].From[stand] {
		for x := range lineage(l, version-1, parent, earlier) {
			found[x] = true
		}
	}
	return found
}

// TestP18_5_Definitions compares lineages with all ways through parents, and owners with the areas of their squares.
func TestP18_5_Definitions(t *testing.T) {
	r := rand.New(rand.NewPCG(18, 7))
	for range 100 {
		l := history(r)
		for later, v := range l {
			for earlier := range later + 1 {
				behind := make([]int, l[earlier].Map.Stands)
				for stand := range v.Map.Stands {
					want := 0
					for x := range lineage(l, later, stand, earlier) {
						want |= 1 << x
						behind[x] |= 1 << stand
					}
					if mask, e := landbook.Ancestors(l, later, stand, earlier); mask != want || e != api.OK {
						t.Fatal(l, later, stand, earlier, mask, e, want)
					}
				}
				for stand, want := range behind {
					if mask, e := landbook.Descendants(l, earlier, stand, later); mask != want || e != api.OK {
						t.Fatal(l, earlier, stand, later, mask, e, want)
					}
				}
			}
			for _, owner := range append(holders, 3, 99) {
				want := 0
				for stand, x := range v.Owner {
					if x == owner {
						want += must(cadastre.Area2(v.Map, stand))
					}
				}
				if area2, e := landbook.Owned(l, later, owner); area2 != want || e != api.OK {
					t.Fatal(l, later, owner, area2, e, want)
				}
			}
		}
	}
}

func TestP18_5_Examples(t *testing.T) {
	l := regrouped()
	check := func(name string, x, e, want int) {
		t.Helper()
		if x != want || e != api.OK {
			t.Error(name, x, e, want)
		}
	}
	area2, e := landbook.Owned(example(), 1, 7)
	check("of the chapter", area2, e, 12)
	area2, e = landbook.Owned(example(), 1, 8)
	check("of the chapter", area2, e, 20)
	mask, e := landbook.Descendants(example(), 0, 0, 1)
	check("of the chapter", mask, e, 3)
	mask, e = landbook.Ancestors(example(), 1, 1, 0)
	check("of the chapter", mask, e, 1)
	mask, e = landbook.Ancestors(l, 3, 0, 0) // 0 of version 2, and so 1 and 2 of version 1
	check("of two stands", mask, e, 3)
	mask, e = landbook.Ancestors(l, 3, 0, 1)
	check("in the middle", mask, e, 6)
	mask, e = landbook.Ancestors(l, 3, 2, 3)
	check("in the same version", mask, e, 4)
	mask, e = landbook.Ancestors(l, 0, 1, 0)
	check("in the first version", mask, e, 2)
	mask, e = landbook.Descendants(l, 0, 0, 3)
	check("of the first stand", mask, e, 7)
	mask, e = landbook.Descendants(l, 0, 1, 2)
	check("of the second stand", mask, e, 1)
	mask, e = landbook.Descendants(l, 3, 3, 3)
	check("in the last version", mask, e, 8)
	area2, e = landbook.Owned(l, 0, 0)
	check("of two stands", area2, e, 24)
	area2, e = landbook.Owned(l, 0, 100)
	check("of one stand", area2, e, 8)
	area2, e = landbook.Owned(l, 0, 50)
	check("of no stand", area2, e, 0)
}

// crowd returns a book in which each of 16 stands comes from all 16 of the version before.
func crowd() []api.Version {
	row := make([]int, 16)
	var all []int
	for i := range row {
		row[i] = i
		all = append(all, i)
	}
	l := []api.Version{version(1, blocks(1, row), nil, all...)}
	for day := 2; day <= 12; day++ {
		l = append(l, version(day, blocks(1, row), slices.Repeat([][]int{all}, 16), all...))
	}
	return l
}

// TestP18_5_Crowd goes through a book with as many versions, stands and parents as there may be.
func TestP18_5_Crowd(t *testing.T) {
	l := crowd()
	if e := landbook.Check(l); e != api.OK {
		t.Fatal(e)
	}
	before, e := landbook.Ancestors(l, 11, 15, 0)
	behind, f := landbook.Descendants(l, 0, 15, 11)
	own, g := landbook.Ancestors(l, 11, 15, 11)
	if before != 1<<16-1 || behind != 1<<16-1 || own != 1<<15 || cmp.Or(e, f, g) != api.OK {
		t.Error(before, behind, own, e, f, g)
	}
}

func TestP18_5_Errors(t *testing.T) {
	for i, x := range [][3]int{{-1, 0, 0}, {4, 0, 0}, {lowest, 0, 0}, {highest, 0, 0}, {1, -1, 1}, {1, 4, 1}, {1, highest, 1}, {1, lowest, 1}, {0, 3, 0}, {3, 4, 3}} {
		a, e := landbook.Ancestors(regrouped(), x[0], x[1], x[2])
		b, f := landbook.Descendants(regrouped(), x[0], x[1], x[2])
		if a != 0 || b != 0 || e != api.ErrRange || f != api.ErrRange {
			t.Error(i, a, b, e, f)
		}
	}
	for i, x := range [][3]int{{1, 0, 2}, {1, 0, -1}, {0, 0, 1}, {3, 0, 4}, {3, 0, lowest}, {3, 0, highest}} {
		if mask, e := landbook.Ancestors(regrouped(), x[0], x[1], x[2]); mask != 0 || e != api.ErrRange {
			t.Error(i, mask, e)
		}
	}
	for i, x := range [][3]int{{1, 0, 0}, {1, 0, 4}, {3, 0, 2}, {3, 0, 4}, {0, 0, -1}, {0, 0, highest}, {0, 0, lowest}} {
		if mask, e := landbook.Descendants(regrouped(), x[0], x[1], x[2]); mask != 0 || e != api.ErrRange {
			t.Error(i, mask, e)
		}
	}
	for i, x := range [][2]int{{-1, 0}, {4, 0}, {highest, 0}, {lowest, 0}, {0, -1}, {0, 101}, {3, lowest}, {3, highest}} {
		if area2, e := landbook.Owned(regrouped(), x[0], x[1]); area2 != 0 || e != api.ErrRange {
			t.Error(i, area2, e)
		}
	}
}

// wayThrough returns a chain from a point of the boundary of a stand to another one, through places between points of the boundary.
func wayThrough(r *rand.Rand, m api.Map, stand int) []api.Point {
	var ends []api.Point
	for _, e := range m.Edges {
		if e.Left == stand || e.Right == stand {
			ends = append(ends, m.Points[e.A], m.Points[e.B])
		}
	}
	pick := func() api.Point { return ends[r.IntN(len(ends))] }
	way := []api.Point{pick()}
	for range r.IntN(3) {
		a, b, c := pick(), pick(), pick()
		way = append(way, at((a.X+b.X+c.X)/3, (a.Y+b.Y+c.Y)/3))
	}
	return append(way, pick())
}

// TestP18_7_Consequences finds that no land is lost, by whomever it is owned, and that what Split and Merge return makes versions.
func TestP18_7_Consequences(t *testing.T) {
	r := rand.New(rand.NewPCG(18, 8))
	longest := 0
	for range 60 {
		f := meadow(r)
		f.width += 50
		m := f.drawn(r)
		l := []api.Version{version(0, m, nil, owners(r, m.Stands)...)}
		for tries := 0; tries < 60 && len(l) < 12; tries++ {
			before := l[len(l)-1].Map
			next, from, e := landbook.Split(before, 0, wayThrough(r, before, 0))
			if r.IntN(4) == 0 {
				next, from, e = landbook.Merge(before, r.IntN(before.Stands), r.IntN(before.Stands))
			}
			if e != api.OK {
				continue
			}
			longer, e := landbook.Add(l, version(len(l), next, from, owners(r, next.Stands)...))
			if e != api.OK {
				t.Fatal(l, next, from, e)
			}
			l = longer
		}
		longest = max(longest, len(l))
		total := sum(areas(m))
		for number, v := range l {
			owned := 0
			for _, owner := range holders {
				area2, e := landbook.Owned(l, number, owner)
				if owned += area2; e != api.OK {
					t.Fatal(l, number, owner, e)
				}
			}
			if sum(areas(v.Map)) != total || owned != total {
				t.Fatal(l, number, owned, total)
			}
		}
		checkLineages(t, l)
	}
	if longest < 12 {
		t.Error("only", longest, "versions")
	}
}

// checkLineages finds that a stand is an ancestor of another one exactly if this is a descendant of it.
func checkLineages(t *testing.T, l []api.Version) {
	t.Helper()
	last := len(l) - 1
	for stand := range l[last].Map.Stands {
		ancestors := must(landbook.Ancestors(l, last, stand, 0))
		for x := range l[0].Map.Stands {
			if descendants := must(landbook.Descendants(l, 0, x, last)); descendants>>stand&1 != ancestors>>x&1 {
				t.Fatal(l, stand, x)
			}
		}
	}
}
