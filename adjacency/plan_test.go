package adjacency_test

import (
	"math/big"
	"math/rand/v2"
	"slices"
	"strings"
	"testing"

	"coupe/adjacency"
	"coupe/api"
)

const outside = -1

// plan is a map of rectangles, from which all that is asked of it can be told without its edges. The rectangles are turned and enlarged so that the direction (1, 0) becomes (p, q).
type plan struct {
	region     [][]int // by rows, from the lowest one, and columns
	across, up []int   // where columns and rows begin and end
	p, q       int
}

// drawn returns a plan of squares. Each text is a row, the lowest one last, in which letters from a on are stands and other signs are the outside.
func drawn(width int, rows ...string) plan {
	x := plan{p: 1}
	for j := range rows {
		var row []int
		for _, c := range rows[len(rows)-1-j] {
			row = append(row, strings.IndexRune("abcdefghijklmnop", c))
		}
		x.region = append(x.region, row)
		x.up = append(x.up, j*width)
	}
	x.up = append(x.up, len(rows)*width)
	for i := range len(x.region[0]) + 1 {
		x.across = append(x.across, i*width)
	}
	return x
}

// of returns the region of a rectangle, which may lie beyond the plan.
func (x plan) of(column, row int) int {
	if row < 0 || row >= len(x.region) || column < 0 || column >= len(x.region[row]) {
		return outside
	}
	return x.region[row][column]
}

// stands returns how many stands there are.
func (x plan) stands() int {
	return slices.Max(slices.Concat(x.region...)) + 1
}

// side is a side of a rectangle, between two corners, with its length before it is enlarged, and the regions on both sides.
type side struct {
	from, to    [2]int
	length      int
	left, right int
}

// sides returns all sides of rectangles between different regions.
func (x plan) sides() []side {
	var l []side
	for j := range x.up {
		for i := range x.across {
			if i+1 < len(x.across) {
				l = append(l, side{[2]int{i, j}, [2]int{i + 1, j}, x.across[i+1] - x.across[i], x.of(i, j), x.of(i, j-1)})
			}
			if j+1 < len(x.up) {
				l = append(l, side{[2]int{i, j}, [2]int{i, j + 1}, x.up[j+1] - x.up[j], x.of(i-1, j), x.of(i, j)})
			}
		}
	}
	return slices.DeleteFunc(l, func(s side) bool { return s.left == s.right })
}

// draw returns the map.
func (x plan) draw() api.Map {
	m := api.Map{Stands: x.stands()}
	for _, b := range x.up {
		for _, a := range x.across {
			m.Points = append(m.Points, api.Point{X: x.p*a + x.q*(slices.Max(x.up)-b), Y: x.q*a + x.p*b})
		}
	}
	number := func(corner [2]int) int { return corner[1]*len(x.across) + corner[0] }
	for _, s := range x.sides() {
		m.Edges = append(m.Edges, api.Edge{A: number(s.from), B: number(s.to), Left: s.left, Right: s.right})
	}
	return m
}

// between returns the sides between two regions.
func (x plan) between(a, b int) []side {
	return slices.DeleteFunc(x.sides(), func(s side) bool {
		return min(s.left, s.right) != min(a, b) || max(s.left, s.right) != max(a, b)
	})
}

// length encloses the length of sides.
func (x plan) length(l []side) api.Span {
	var s api.Span
	for _, one := range l {
		square := big.NewInt(int64(one.length*one.length) * int64(x.p*x.p+x.q*x.q))
		root := new(big.Int).Sqrt(square)
		s.Lo += int(root.Int64())
		if root.Mul(root, root).Cmp(square) < 0 {
			s.Hi++
		}
	}
	s.Hi += s.Lo
	return s
}

// distance2 returns the square of the least distance between rectangles of two stands.
func (x plan) distance2(a, b int) int {
	gap := func(bounds []int, i, j int) int { return max(bounds[max(i, j)]-bounds[min(i, j)+1], 0) }
	least := -1
	for j, row := range x.region {
		for i, stand := range row {
			for k, other := range x.region {
				for n := range other {
					if stand != a || other[n] != b {
						continue
					}
					wide, high := gap(x.across, i, n), gap(x.up, j, k)
					if d := wide*wide + high*high; least < 0 || d < least {
						least = d
					}
				}
			}
		}
	}
	return least * (x.p*x.p + x.q*x.q)
}

// meetInCorner reports whether rectangles of two stands are around the same corner.
func (x plan) meetInCorner(a, b int) bool {
	for j := range x.up {
		for i := range x.across {
			around := []int{x.of(i, j), x.of(i-1, j), x.of(i, j-1), x.of(i-1, j-1)}
			if slices.Contains(around, a) && slices.Contains(around, b) {
				return true
			}
		}
	}
	return false
}

// blocks spreads the lowest number of the stands of a set over their sides, until nothing changes any more.
func (x plan) blocks(set []bool) []int {
	l := make([]int, len(set))
	for stand, in := range set {
		l[stand] = stand
		if !in {
			l[stand] = -1
		}
	}
	for changed := true; changed; {
		changed = false
		for _, s := range x.sides() {
			if s.left < 0 || s.right < 0 || l[s.left] < 0 || l[s.right] < 0 || l[s.left] == l[s.right] {
				continue
			}
			lower := min(l[s.left], l[s.right])
			l[s.left], l[s.right], changed = lower, lower, true
		}
	}
	return l
}

// bounds returns so many numbers in ascending order, from 0 to at most most.
func bounds(r *rand.Rand, count, most int) []int {
	l := []int{0}
	widest := 1 + r.IntN(max(most/(count-1), 1))
	for len(l) < count {
		l = append(l, l[len(l)-1]+1+r.IntN(widest))
	}
	return l
}

// random returns a plan with as many rectangles as a map can hold, or fewer.
func random(r *rand.Rand) plan {
	turns := [][2]int{{1, 0}, {1, 0}, {0, 1}, {1, 1}, {3, 4}, {2, 1}, {5, 12}, {7, 3}}
	turn := turns[r.IntN(len(turns))]
	x := plan{p: turn[0], q: turn[1]}
	most := []int{12, 60, api.MaxCoord}[r.IntN(3)] / (x.p + x.q)
	x.across, x.up = bounds(r, 2+r.IntN(7), most), bounds(r, 2+r.IntN(7), most)
	kinds := 1 + r.IntN(api.MaxStands)
	numbers := map[int]int{outside: outside}
	for range len(x.up) - 1 {
		var row []int
		for range len(x.across) - 1 {
			kind := r.IntN(kinds+1) - 1
			if _, known := numbers[kind]; !known {
				numbers[kind] = len(numbers) - 1
			}
			row = append(row, numbers[kind])
		}
		x.region = append(x.region, row)
	}
	if x.stands() == 0 {
		x.region[0][0] = 0
	}
	return x
}

// shuffled returns a map with its points and edges in another order, and with some edges in the other direction.
func shuffled(r *rand.Rand, m api.Map) api.Map {
	n := api.Map{Stands: m.Stands, Points: make([]api.Point, len(m.Points)), Edges: slices.Clone(m.Edges)}
	order := r.Perm(len(m.Points))
	for i, p := range m.Points {
		n.Points[order[i]] = p
	}
	r.Shuffle(len(n.Edges), func(i, j int) { n.Edges[i], n.Edges[j] = n.Edges[j], n.Edges[i] })
	for i, e := range n.Edges {
		n.Edges[i].A, n.Edges[i].B = order[e.A], order[e.B]
		if r.IntN(2) == 0 {
			n.Edges[i] = api.Edge{A: order[e.B], B: order[e.A], Left: e.Right, Right: e.Left}
		}
	}
	return n
}

// plans calls a function for so many random plans with their maps.
func plans(seed uint64, count int, f func(r *rand.Rand, x plan, m api.Map)) {
	r := rand.New(rand.NewPCG(13, seed))
	for range count {
		x := random(r)
		f(r, x, shuffled(r, x.draw()))
	}
}

func TestP13_1_Definitions(t *testing.T) {
	plans(1, 150, func(r *rand.Rand, x plan, m api.Map) {
		for a := outside; a < m.Stands; a++ {
			for b := outside; b < m.Stands; b++ {
				if a == b {
					continue
				}
				if s, e := adjacency.Shared(m, a, b); s != x.length(x.between(a, b)) || e != api.OK {
					t.Fatal(m, a, b, s, x.length(x.between(a, b)), e)
				}
			}
			around := slices.DeleteFunc(x.sides(), func(s side) bool { return s.left != a && s.right != a })
			if s, e := adjacency.Perimeter(m, a); a >= 0 && (s != x.length(around) || e != api.OK) {
				t.Fatal(m, a, s, x.length(around), e)
			}
		}
	})
}

func TestP13_2_Definitions(t *testing.T) {
	var answers [2]int
	plans(2, 250, func(r *rand.Rand, x plan, m api.Map) {
		a := r.IntN(m.Stands)
		reach := r.IntN(api.MaxCoord)
		for b := range m.Stands {
			if a == b {
				continue
			}
			d := x.distance2(a, b)
			root := int(new(big.Int).Sqrt(big.NewInt(int64(d))).Int64())
			for _, radius := range []int{0, max(root-1, 0), root, root + 1, r.IntN(2*root + 2), 200000} {
				want := d <= radius*radius
				if near, e := adjacency.Close(m, a, b, radius); near != want || e != api.OK {
					t.Fatal(m, a, b, radius, near, d, e)
				}
				if want {
					answers[1]++
				} else {
					answers[0]++
				}
			}
			if r.IntN(3) == 0 {
				reach = root + r.IntN(2)
			}
		}
		checkBuffer(t, x, m, a, reach)
	})
	if slices.Min(answers[:]) < 500 {
		t.Error("only", answers)
	}
}

// checkBuffer compares a buffer with the distances of all other stands.
func checkBuffer(t *testing.T, x plan, m api.Map, stand, reach int) {
	t.Helper()
	var want []int
	for other := range m.Stands {
		if other != stand && x.distance2(stand, other) <= reach*reach {
			want = append(want, other)
		}
	}
	if got, e := adjacency.Buffer(m, stand, reach); !slices.Equal(got, want) || e != api.OK {
		t.Fatal(m, stand, reach, got, want, e)
	}
}

func TestP13_3_Definitions(t *testing.T) {
	corners, apart := 0, 0
	plans(3, 400, func(r *rand.Rand, x plan, m api.Map) {
		var pairs [][2]int
		arcs := []api.Arc{}
		for a := range m.Stands {
			for b := range m.Stands {
				adjacent := a != b && len(x.between(a, b)) > 0
				if adjacent {
					arcs = append(arcs, api.Arc{From: a, To: b, Cost: 1})
				}
				if a < b && !adjacent && x.meetInCorner(a, b) {
					pairs = append(pairs, [2]int{a, b})
				}
				if a < b && !adjacent && !x.meetInCorner(a, b) {
					apart++
				}
			}
		}
		corners += len(pairs)
		if got, e := adjacency.Corners(m); !slices.Equal(got, pairs) || e != api.OK {
			t.Fatal(m, got, pairs, e)
		}
		if g, e := adjacency.Graph(m); g.Nodes != m.Stands || !slices.Equal(g.Arcs, arcs) || e != api.OK {
			t.Fatal(m, g, arcs, e)
		}
		for range 3 {
			set := make([]bool, m.Stands)
			for i := range set {
				set[i] = r.IntN(3) > 0
			}
			if got, e := adjacency.Blocks(m, set); !slices.Equal(got, x.blocks(set)) || e != api.OK {
				t.Fatal(m, set, got, x.blocks(set), e)
			}
		}
	})
	if corners < 500 || apart < 500 {
		t.Error("only", corners, apart)
	}
}
