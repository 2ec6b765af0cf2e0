package landbook_test

import (
	"math/rand/v2"
	"reflect"
	"slices"
	"testing"

	"coupe/api"
	"coupe/cadastre"
	"coupe/landbook"
)

const (
	lowest  = -1 << 63
	highest = 1<<63 - 1
)

func at(x, y int) api.Point {
	return api.Point{X: x, Y: y}
}

func edge(a, b, left, right int) api.Edge {
	return api.Edge{A: a, B: b, Left: left, Right: right}
}

// must returns a result that has no error.
func must[T any](result T, e int) T {
	if e != api.OK {
		panic(e)
	}
	return result
}

// square returns the map of the chapter.
func square() api.Map {
	return api.Map{
		Points: []api.Point{at(0, 0), at(4, 0), at(4, 4), at(0, 4)},
		Edges:  []api.Edge{edge(0, 1, 0, -1), edge(1, 2, 0, -1), edge(2, 3, 0, -1), edge(3, 0, 0, -1)},
		Stands: 1,
	}
}

// chain returns the chain of the chapter.
func chain() []api.Point {
	return []api.Point{at(0, 0), at(1, 2), at(4, 4)}
}

// divided returns the map of the chapter after it is divided.
func divided() api.Map {
	return api.Map{
		Points: append(square().Points, at(1, 2)),
		Edges:  []api.Edge{edge(0, 1, 1, -1), edge(1, 2, 1, -1), edge(2, 3, 0, -1), edge(3, 0, 0, -1), edge(0, 4, 0, 1), edge(4, 2, 0, 1)},
		Stands: 2,
	}
}

// blocks returns a map of rows of squares of a width; a square with a negative number belongs to no stand. The first row is the lowest one.
func blocks(width int, rows ...[]int) api.Map {
	m := api.Map{}
	columns := len(rows[0])
	of := func(column, row int) int {
		if column < 0 || row < 0 || column >= columns || row >= len(rows) {
			return -1
		}
		return rows[row][column]
	}
	for row := range len(rows) + 1 {
		for column := range columns + 1 {
			m.Points = append(m.Points, at(width*column, width*row))
			m.Stands = max(m.Stands, of(column, row)+1)
			here := len(m.Points) - 1
			if below := of(column, row-1); below != of(column, row) && column < columns {
				m.Edges = append(m.Edges, edge(here, here+1, of(column, row), below))
			}
			if left := of(column-1, row); left != of(column, row) && row < len(rows) {
				m.Edges = append(m.Edges, edge(here, here+columns+1, left, of(column, row)))
			}
		}
	}
	return m
}

// version returns a version of a map.
func version(day int, m api.Map, from [][]int, owner ...int) api.Version {
	return api.Version{Day: day, Map: m, From: from, Owner: owner}
}

// example returns the book of the chapter.
func example() []api.Version {
	return []api.Version{version(5, square(), nil, 7), version(9, divided(), [][]int{{0}, {0}}, 7, 8)}
}

// regrouped returns a book of four versions in which stands are divided, united, and divided in other ways.
func regrouped() []api.Version {
	return []api.Version{
		version(0, blocks(2, []int{0, 0, 1, 2}), nil, 0, 100, 0),
		version(1, blocks(2, []int{0, 1, 2, 3}), [][]int{{0}, {0}, {1}, {2}}, 1, 1, 1, 1),
		version(7, blocks(2, []int{1, 0, 0, 2}), [][]int{{1, 2}, {0}, {3}}, 4, 5, 4),
		version(100000, blocks(2, []int{1, 2, 0, 3}), [][]int{{0}, {1}, {0}, {2}}, 9, 9, 9, 9),
	}
}

// areas returns twice the areas of all stands, from the lines below the edges.
func areas(m api.Map) []int {
	l := make([]int, m.Stands)
	for _, e := range m.Edges {
		a, b := m.Points[e.A], m.Points[e.B]
		below := (b.X - a.X) * (a.Y + b.Y)
		if e.Left >= 0 {
			l[e.Left] -= below
		}
		if e.Right >= 0 {
			l[e.Right] += below
		}
	}
	return l
}

// sum adds numbers.
func sum(l []int) int {
	total := 0
	for _, x := range l {
		total += x
	}
	return total
}

// sameMap reports whether two maps have the same points and edges in the same order, where an empty list and nil are equal.
func sameMap(a, b api.Map) bool {
	return a.Stands == b.Stands && slices.Equal(a.Points, b.Points) && slices.Equal(a.Edges, b.Edges)
}

// sameLists reports whether two lists of lists are equal, where an empty list and nil are.
func sameLists(a, b [][]int) bool {
	return slices.EqualFunc(a, b, slices.Equal)
}

// sameBook reports whether two books are equal.
func sameBook(a, b []api.Version) bool {
	return slices.EqualFunc(a, b, func(x, y api.Version) bool {
		return x.Day == y.Day && sameMap(x.Map, y.Map) && sameLists(x.From, y.From) && slices.Equal(x.Owner, y.Owner)
	})
}

// copyOf returns a book that shares no memory with another one.
func copyOf(l []api.Version) []api.Version {
	var c []api.Version
	for _, v := range l {
		v.Map.Points, v.Map.Edges = slices.Clone(v.Map.Points), slices.Clone(v.Map.Edges)
		var from [][]int
		for _, x := range v.From {
			from = append(from, slices.Clone(x))
		}
		v.From, v.Owner = from, slices.Clone(v.Owner)
		c = append(c, v)
	}
	return c
}

// nothing reports whether a result is the zero value, or an empty list.
func nothing(result any) bool {
	v := reflect.ValueOf(result)
	return v.IsZero() || v.Kind() == reflect.Slice && v.Len() == 0
}

// answers returns the results of all functions with books but Check, and their errors.
func answers(l []api.Version, v api.Version, day, number, stand, other, owner int) (results []any, errors []int) {
	longer, e1 := landbook.Add(l, v)
	found, e2 := landbook.At(l, day)
	before, e3 := landbook.Ancestors(l, number, stand, other)
	behind, e4 := landbook.Descendants(l, number, stand, other)
	owned, e5 := landbook.Owned(l, number, owner)
	return []any{longer, found, before, behind, owned}, []int{e1, e2, e3, e4, e5}
}

// checkNothingBesideErrors finds that functions that return an error return nothing else.
func checkNothingBesideErrors(t *testing.T, results []any, errors []int) {
	t.Helper()
	for i, e := range errors {
		if e != api.OK && !nothing(results[i]) {
			t.Error("function", i, "returns", results[i], "beside the error", e)
		}
	}
}

// TestP1_AnyArguments calls all functions with arguments of any form: none panics, and beside an error there is nothing else.
func TestP1_AnyArguments(t *testing.T) {
	numbers := []int{lowest, lowest + 1, -2, -1, 0, 1, 2, 3, 4, 15, 16, 63, 64, 100, 101, 100000, 100001, highest - 1, highest}
	r := rand.New(rand.NewPCG(18, 1))
	pick := func() int { return numbers[r.IntN(len(numbers))] }
	list := func() []int {
		l := make([]int, r.IntN(4))
		for i := range l {
			l[i] = pick()
		}
		return l
	}
	anyMap := func() api.Map {
		if r.IntN(2) == 0 {
			return divided()
		}
		m := api.Map{Stands: pick()}
		for range r.IntN(6) {
			m.Points = append(m.Points, at(pick(), pick()))
			m.Edges = append(m.Edges, edge(pick(), pick(), pick(), pick()))
		}
		return m
	}
	points := append(divided().Points, at(2, 1), at(3, 2), at(-1, highest), at(lowest, highest))
	for range 3000 {
		l := [][]api.Version{nil, example(), regrouped()}[r.IntN(3)]
		v := version(pick(), anyMap(), nil, list()...)
		for range r.IntN(4) {
			v.From = append(v.From, list())
		}
		results, errors := answers(l, v, pick(), pick(), pick(), pick(), pick())
		checkNothingBesideErrors(t, results, errors)
		broken := append(slices.Clone(l), v)
		landbook.Check(broken)
		results, errors = answers(broken, v, pick(), pick(), pick(), pick(), pick())
		checkNothingBesideErrors(t, results, errors)
		var way []api.Point
		for range r.IntN(12) {
			way = append(way, points[r.IntN(len(points))])
		}
		m := anyMap()
		one, from, e := landbook.Merge(m, pick(), pick())
		more, to, f := landbook.Split(m, pick(), way)
		checkNothingBesideErrors(t, []any{one, from, more, to}, []int{e, e, f, f})
	}
	huge := slices.Repeat(example()[:1], 1<<16)
	results, errors := answers(huge, huge[0], 5, 0, 0, 0, 0)
	checkNothingBesideErrors(t, results, errors)
	wide := example()
	wide[1].From[0] = make([]int, 1<<16)
	wide[1].Owner = make([]int, 1<<16)
	results, errors = answers(wide, huge[0], 5, 0, 0, 0, 0)
	checkNothingBesideErrors(t, results, errors)
	if _, _, e := landbook.Split(square(), 0, make([]api.Point, 1<<16)); e != api.ErrForm {
		t.Error(e)
	}
}

// roomy returns a copy of a list with space behind it, in which some elements stand.
func roomy[T any](l []T, behind ...T) []T {
	return append(append(make([]T, 0, len(l)+len(behind)), l...), behind...)[:len(l)]
}

// roomyMap returns a map with space behind its lists.
func roomyMap(m api.Map) api.Map {
	m.Points = roomy(m.Points, at(55, 5), at(66, 6), at(77, 7))
	m.Edges = roomy(m.Edges, edge(5, 5, 5, 5), edge(6, 6, 6, 6), edge(7, 7, 7, 7), edge(8, 8, 8, 8))
	return m
}

// roomyVersion returns a version with space behind its lists.
func roomyVersion(v api.Version) api.Version {
	v.Map = roomyMap(v.Map)
	from := roomy([][]int(nil), make([][]int, len(v.From)+2)...)
	for _, x := range v.From {
		from = append(from, roomy(x, 55, 66))
	}
	v.From, v.Owner = from, roomy(v.Owner, 55, 66)
	return v
}

// roomyBook returns a book with space behind all its lists.
func roomyBook(l []api.Version) []api.Version {
	var c []api.Version
	for _, v := range l {
		c = append(c, roomyVersion(v))
	}
	return roomy(c, version(55, api.Map{}, nil), version(66, api.Map{}, nil))
}

// memory returns copies of all memory of a map.
func memory(m api.Map) api.Map {
	return api.Map{Points: slices.Clone(m.Points[:cap(m.Points)]), Edges: slices.Clone(m.Edges[:cap(m.Edges)]), Stands: m.Stands}
}

// memoryOf returns copies of all memory of a book.
func memoryOf(l []api.Version) []api.Version {
	var c []api.Version
	for _, v := range l[:cap(l)] {
		v.Map = memory(v.Map)
		var from [][]int
		for _, x := range v.From[:cap(v.From)] {
			from = append(from, slices.Clone(x[:cap(x)]))
		}
		v.From, v.Owner = from, slices.Clone(v.Owner[:cap(v.Owner)])
		c = append(c, v)
	}
	return c
}

// spoil writes into all memory of a result, also behind its lists.
func spoil(result any) {
	switch x := result.(type) {
	case []int:
		for i := range x[:cap(x)] {
			x[:cap(x)][i] = -77
		}
	case [][]int:
		for i := range x {
			spoil(x[i])
		}
		for i := range x[:cap(x)] {
			x[:cap(x)][i] = []int{-77}
		}
	case []api.Point:
		for i := range x[:cap(x)] {
			x[:cap(x)][i] = at(-77, -77)
		}
	case []api.Edge:
		for i := range x[:cap(x)] {
			x[:cap(x)][i] = edge(-77, -77, -77, -77)
		}
	case api.Map:
		spoil(x.Points)
		spoil(x.Edges)
	case []api.Version:
		for i := range x {
			spoil(x[i].Map)
			spoil(x[i].From)
			spoil(x[i].Owner)
		}
		for i := range x[:cap(x)] {
			x[:cap(x)][i] = version(-77, api.Map{}, nil)
		}
	}
}

// TestP18_6_MemoryIsKept finds that results share no memory with arguments, and not with each other.
func TestP18_6_MemoryIsKept(t *testing.T) {
	l := roomyBook(regrouped()[:3])
	v := roomyVersion(regrouped()[3])
	m := roomyMap(divided())
	way := roomy([]api.Point{at(1, 2), at(1, 3), at(0, 4)}, at(5, 5), at(6, 6))
	kept := memoryOf(append(l[:3:3], v))
	keptBook, keptMap, keptWay := memoryOf(l), memory(m), slices.Clone(way[:cap(way)])
	all := func() []any {
		results, errors := answers(l, v, 3, 1, 2, 1, 1)
		one, from, e := landbook.Merge(m, 1, 0)
		more, to, f := landbook.Split(m, 0, way)
		if errors = append(errors, e, f, landbook.Check(l)); slices.ContainsFunc(errors, func(e int) bool { return e != api.OK }) {
			t.Fatal(errors)
		}
		return append(results, one, from, more, to)
	}
	first := all()
	second := all()
	for _, result := range first {
		spoil(result)
	}
	if !reflect.DeepEqual(kept, memoryOf(append(l[:3:3], v))) || !reflect.DeepEqual(keptBook, memoryOf(l)) || !reflect.DeepEqual(keptMap, memory(m)) || !slices.Equal(keptWay, way[:cap(way)]) {
		t.Error("arguments were changed, or results share memory with them")
	}
	if third := all(); !reflect.DeepEqual(second, third) {
		t.Error("results share memory with each other", second, third)
	}
}

// TestP18_6_ListsAreApart finds that no list of a result lies in the space behind another one.
func TestP18_6_ListsAreApart(t *testing.T) {
	longer := must(landbook.Add(roomyBook(regrouped()[:3]), roomyVersion(regrouped()[3])))
	kept := copyOf(longer)
	for _, v := range longer {
		spoil(v.Map.Points[len(v.Map.Points):])
		spoil(v.Map.Edges[len(v.Map.Edges):])
		for _, x := range v.From {
			spoil(x[len(x):])
		}
		spoil(v.From[len(v.From):])
		spoil(v.Owner[len(v.Owner):])
	}
	if !sameBook(kept, longer) {
		t.Error(longer)
	}
	m := blocks(1, []int{0, 1, 2, 3, 4})
	_, from, _ := landbook.Merge(m, 3, 1)
	_, to, _ := landbook.Split(blocks(2, []int{0, 0}, []int{0, 0}), 0, []api.Point{at(2, 0), at(2, 4)})
	for i, x := range [][][]int{from, to} {
		want := [][][]int{{{0}, {1, 3}, {2}, {4}}, {{0}, {0}}}[i]
		for _, parents := range x {
			spoil(parents[len(parents):])
		}
		if !sameLists(x, want) {
			t.Error(x, want)
		}
	}
}

// fault is a change that makes an error in the last version of a book.
type fault struct {
	name   string
	change func(v *api.Version)
	e      int
}

// faults are changes of the last version of regrouped, those first whose errors are returned first.
var faults = []fault{
	{"a day below 0", func(v *api.Version) { v.Day = -1 }, api.ErrRange},
	{"a day that is too late", func(v *api.Version) { v.Day = 100001 }, api.ErrRange},
	{"a day far below 0", func(v *api.Version) { v.Day = lowest }, api.ErrRange},
	{"a day far too late", func(v *api.Version) { v.Day = highest }, api.ErrRange},
	{"the day of the version before", func(v *api.Version) { v.Day = 7 }, api.ErrOrder},
	{"an earlier day", func(v *api.Version) { v.Day = 0 }, api.ErrOrder},
	{"no stands", func(v *api.Version) { v.Map.Stands = 0 }, api.ErrRange},
	{"too many points", func(v *api.Version) { v.Map.Points = make([]api.Point, 65) }, api.ErrLimit},
	{"a point twice", func(v *api.Version) { v.Map.Points = append(v.Map.Points, v.Map.Points[0]) }, api.ErrExist},
	{"an edge without two ends", func(v *api.Version) { v.Map.Edges = []api.Edge{edge(1, 1, 0, 1)} }, api.ErrForm},
	{"edges that cross", func(v *api.Version) { v.Map.Edges = append(slices.Clone(v.Map.Edges), edge(0, 7, 0, 1)) }, api.ErrOrder},
	{"an edge that is missing", func(v *api.Version) { v.Map.Edges = v.Map.Edges[1:] }, api.ErrConflict},
	{"a stand without an area", func(v *api.Version) { v.Map.Stands++ }, api.ErrNone},
	{"no parents at all", func(v *api.Version) { v.From = nil }, api.ErrForm},
	{"parents of too few stands", func(v *api.Version) { v.From = [][]int{{0}, {1}, {2}} }, api.ErrForm},
	{"parents of too many stands", func(v *api.Version) { v.From = [][]int{{0}, {1}, {0}, {2}, {2}} }, api.ErrForm},
	{"no owner", func(v *api.Version) { v.Owner = nil }, api.ErrForm},
	{"owners of too few stands", func(v *api.Version) { v.Owner = []int{9, 9, 9} }, api.ErrForm},
	{"owners of too many stands", func(v *api.Version) { v.Owner = []int{9, 9, 9, 9, 9} }, api.ErrForm},
	{"a first stand without parents", func(v *api.Version) { v.From = withList(v.From, 0) }, api.ErrForm},
	{"a last stand without parents", func(v *api.Version) { v.From = withList(v.From, -1) }, api.ErrForm},
	{"a parent twice", func(v *api.Version) { v.From = withList(v.From, 2, 0, 0) }, api.ErrForm},
	{"parents in descending order", func(v *api.Version) { v.From = withList(v.From, 1, 1, 0) }, api.ErrForm},
	{"parents of which the last one is lower", func(v *api.Version) { v.From = withList(v.From, 1, 0, 2, 1) }, api.ErrForm},
	{"a parent below 0", func(v *api.Version) { v.From = withList(v.From, 0, -1, 0) }, api.ErrRange},
	{"a parent that there is not", func(v *api.Version) { v.From = withList(v.From, -1, 2, 3) }, api.ErrRange},
	{"a parent far too great", func(v *api.Version) { v.From = withList(v.From, 1, 1, highest) }, api.ErrRange},
	{"an owner below 0", func(v *api.Version) { v.Owner = []int{-1, 9, 9, 9} }, api.ErrRange},
	{"an owner that is too great", func(v *api.Version) { v.Owner = []int{9, 9, 9, 101} }, api.ErrRange},
	{"an owner far too great", func(v *api.Version) { v.Owner = []int{9, highest, 9, 9} }, api.ErrRange},
	{"a first stand that is nobody's parent", func(v *api.Version) { v.From = [][]int{{1}, {1}, {2}, {2}} }, api.ErrForm},
	{"a last stand that is nobody's parent", func(v *api.Version) { v.From = [][]int{{0}, {1}, {0}, {1}} }, api.ErrForm},
	{"families that exchange stands of equal areas", func(v *api.Version) { v.From = [][]int{{0}, {2}, {0}, {1}} }, api.OK},
	{"families of different areas", func(v *api.Version) { v.From = [][]int{{1}, {0}, {2}, {2}} }, api.ErrSum},
	{"a family that loses, and one that wins", func(v *api.Version) { v.From = [][]int{{0}, {1}, {2}, {2}} }, api.ErrSum},
	{"more land", func(v *api.Version) { v.Map = blocks(3, []int{1, 2, 0, 3}) }, api.ErrSum},
	{"less land", func(v *api.Version) { v.Map = blocks(1, []int{1, 2, 0, 3}) }, api.ErrSum},
}

// withList returns lists of parents with another one for a stand; -1 is the last one.
func withList(from [][]int, stand int, parents ...int) [][]int {
	from = slices.Clone(from)
	if stand < 0 {
		stand = len(from) - 1
	}
	if 0 <= stand && stand < len(from) {
		from[stand] = parents
	}
	return from
}

// expected returns the error of a book, as the chapter says.
func expected(l []api.Version) int {
	if len(l) < 1 {
		return api.ErrForm
	}
	if len(l) > 12 {
		return api.ErrLimit
	}
	for i, v := range l {
		if e := expectedVersion(l[:i], v); e != api.OK {
			return e
		}
	}
	return api.OK
}

// expectedVersion returns the error of a version behind others.
func expectedVersion(before []api.Version, v api.Version) int {
	if v.Day < 0 || v.Day > 100000 {
		return api.ErrRange
	}
	if len(before) > 0 && before[len(before)-1].Day >= v.Day {
		return api.ErrOrder
	}
	if e := cadastre.Check(v.Map); e != api.OK {
		return e
	}
	var parents []int
	if len(before) == 0 && len(v.From) > 0 || len(before) > 0 && len(v.From) != v.Map.Stands || len(v.Owner) != v.Map.Stands {
		return api.ErrForm
	}
	for _, x := range v.From {
		if sorted := slices.Compact(slices.Sorted(slices.Values(x))); len(x) == 0 || !slices.Equal(sorted, x) {
			return api.ErrForm
		}
		parents = append(parents, x...)
	}
	stands := 0
	if len(before) > 0 {
		stands = before[len(before)-1].Map.Stands
	}
	if slices.ContainsFunc(parents, func(x int) bool { return x < 0 || x >= stands }) || slices.Min(v.Owner) < 0 || slices.Max(v.Owner) > 100 {
		return api.ErrRange
	}
	if len(before) == 0 {
		return api.OK
	}
	slices.Sort(parents)
	if len(slices.Compact(parents)) != stands {
		return api.ErrForm
	}
	old, now := areas(before[len(before)-1].Map), areas(v.Map)
	for child := range v.From {
		family, forebears := relatives(v.From, child)
		balance := 0
		for _, x := range family {
			balance += now[x]
		}
		for _, x := range forebears {
			balance -= old[x]
		}
		if balance != 0 {
			return api.ErrSum
		}
	}
	return api.OK
}

// relatives returns the family of a stand: stands of the version, and stands of the one before. The family grows until it has all that belong to it.
func relatives(from [][]int, child int) (family, forebears []int) {
	family = []int{child}
	for grown := true; grown; {
		grown = false
		for x, parents := range from {
			for _, y := range parents {
				if a, b := slices.Contains(family, x), slices.Contains(forebears, y); a != b {
					grown = true
					if a {
						forebears = append(forebears, y)
					} else {
						family = append(family, x)
					}
				}
			}
		}
	}
	return family, forebears
}

func TestP18_1_Check(t *testing.T) {
	first := func(change func(v *api.Version)) []api.Version {
		l := regrouped()
		change(&l[0])
		return l
	}
	many := func(count int) []api.Version {
		l := []api.Version{version(0, square(), nil, 3)}
		for i := 1; i < count; i++ {
			l = append(l, version(i, square(), [][]int{{0}}, 3))
		}
		return l
	}
	for i, x := range []struct {
		l []api.Version
		e int
	}{
		{example(), api.OK},
		{example()[:1], api.OK},
		{regrouped(), api.OK},
		{many(12), api.OK},
		{nil, api.ErrForm},
		{[]api.Version{}, api.ErrForm},
		{many(13), api.ErrLimit},
		{make([]api.Version, 13), api.ErrLimit},
		{make([]api.Version, 12), api.ErrRange},
		{first(func(v *api.Version) { v.From = [][]int{} }), api.OK},
		{first(func(v *api.Version) { v.Day = -1 }), api.ErrRange},
		{first(func(v *api.Version) { v.Day = 100001; v.Map.Stands = 0 }), api.ErrRange},
		{first(func(v *api.Version) { v.Map.Edges = v.Map.Edges[1:]; v.Owner = nil }), api.ErrConflict},
		{first(func(v *api.Version) { v.From = [][]int{{0}, {1}, {2}} }), api.ErrForm},
		{first(func(v *api.Version) { v.From = [][]int{{}} }), api.ErrForm},
		{first(func(v *api.Version) { v.From = [][]int{nil, nil, nil} }), api.ErrForm},
		{first(func(v *api.Version) { v.Owner = nil }), api.ErrForm},
		{first(func(v *api.Version) { v.Owner = []int{1, 2} }), api.ErrForm},
		{first(func(v *api.Version) { v.Owner = []int{1, 2, 3, 4} }), api.ErrForm},
		{first(func(v *api.Version) { v.Owner = []int{1, -1, 2, 4} }), api.ErrForm},
		{first(func(v *api.Version) { v.Owner = []int{1, -1, 2} }), api.ErrRange},
		{first(func(v *api.Version) { v.Owner = []int{1, 2, 101} }), api.ErrRange},
		// Of several versions the first one with an error.
		{first(func(v *api.Version) { v.Day = 1 }), api.ErrOrder},
		{first(func(v *api.Version) { v.Owner = []int{101, 2, 3}; v.Day = 7 }), api.ErrRange},
		{append(regrouped(), regrouped()...), api.ErrOrder},
		{append(example(), version(9, api.Map{}, nil), version(-1, api.Map{}, nil)), api.ErrOrder},
		{append(example(), version(10, api.Map{}, nil), version(-1, api.Map{}, nil)), api.ErrRange},
		{append(example(), version(10, square(), [][]int{{0}}, 1), version(-1, api.Map{}, nil)), api.ErrForm},
		{append(example(), version(10, square(), [][]int{{0, 1}}, 1), version(11, square(), [][]int{{0}}, 1)), api.OK},
		{append(example(), version(10, square(), [][]int{{0, 1}}, 1), version(11, square(), [][]int{{0, 1}}, 1)), api.ErrRange},
		{append(example(), version(10, blocks(3, []int{0}), [][]int{{0, 1}}, 1), version(-1, api.Map{}, nil)), api.ErrSum},
	} {
		if e := landbook.Check(x.l); e != x.e {
			t.Error(i, e, x.e)
		}
		if x.e != api.OK {
			results, errors := answers(x.l, version(-1, api.Map{}, nil), -1, -1, -1, -1, -1)
			checkNothingBesideErrors(t, results, errors)
			if slices.ContainsFunc(errors, func(e int) bool { return e != x.e }) {
				t.Error(i, "the error of Check is not the first", errors)
			}
		}
	}
}

// TestP18_1_Faults makes errors in a version, alone and two at a time, and finds them also where another version follows.
func TestP18_1_Faults(t *testing.T) {
	for i, x := range faults {
		l := regrouped()
		x.change(&l[3])
		if e := landbook.Check(l); e != x.e || e != expected(l) {
			t.Error(x.name, e)
		}
		if longer, e := landbook.Add(regrouped()[:3], l[3]); e != x.e || e != api.OK && !nothing(longer) {
			t.Error(x.name, longer, e)
		}
		for _, y := range faults[i+1:] {
			l := copyOf(regrouped())
			x.change(&l[3])
			y.change(&l[3])
			if e := landbook.Check(l); e != expected(l) {
				t.Error(x.name, y.name, e, expected(l))
			}
			if e := landbook.Check(append(l, version(-1, api.Map{}, nil))); expected(l) != api.OK && e != expected(l) {
				t.Error(x.name, y.name, e)
			}
		}
	}
}

func TestP18_2_Add(t *testing.T) {
	for n := 1; n < 4; n++ {
		l := regrouped()
		if longer, e := landbook.Add(l[:n], l[n]); e != api.OK || !sameBook(longer, regrouped()[:n+1]) || !sameBook(l, regrouped()) {
			t.Error(n, longer, e)
		}
	}
	twelve := example()[:1]
	for day := 6; len(twelve) < 12; day++ {
		twelve = must(landbook.Add(twelve, version(day, square(), [][]int{{0}}, day)))
	}
	if e := landbook.Check(twelve); e != api.OK {
		t.Error(e)
	}
	for i, x := range []struct {
		l []api.Version
		v api.Version
		e int
	}{
		{nil, example()[0], api.ErrForm},
		{twelve, version(99, square(), [][]int{{0}}, 1), api.ErrLimit},
		{twelve, version(-1, api.Map{}, nil), api.ErrLimit},
		{example(), example()[1], api.ErrOrder},
		{example(), version(-1, api.Map{}, nil), api.ErrRange},
		{example()[:1], version(9, square(), nil, 1), api.ErrForm},
		{example()[1:], version(-1, api.Map{}, nil), api.ErrForm},
		{append(example(), example()...), version(-1, api.Map{}, nil), api.ErrOrder},
	} {
		if longer, e := landbook.Add(x.l, x.v); e != x.e || !nothing(longer) {
			t.Error(i, longer, e)
		}
	}
}

func TestP18_2_At(t *testing.T) {
	for i, x := range []struct {
		l              []api.Version
		day, number, e int
	}{
		{example(), 8, 0, api.OK},
		{example(), 5, 0, api.OK},
		{example(), 9, 1, api.OK},
		{example(), 10, 1, api.OK},
		{example(), highest, 1, api.OK},
		{example(), 4, 0, api.ErrNone},
		{example(), 0, 0, api.ErrNone},
		{example(), -1, 0, api.ErrNone},
		{example(), lowest, 0, api.ErrNone},
		{regrouped(), -1, 0, api.ErrNone},
		{regrouped(), 0, 0, api.OK},
		{regrouped(), 1, 1, api.OK},
		{regrouped(), 6, 1, api.OK},
		{regrouped(), 7, 2, api.OK},
		{regrouped(), 99999, 2, api.OK},
		{regrouped(), 100000, 3, api.OK},
		{regrouped(), 100001, 3, api.OK},
		{regrouped()[:1], highest, 0, api.OK},
	} {
		if n, e := landbook.At(x.l, x.day); n != x.number || e != x.e {
			t.Error(i, n, e)
		}
	}
}

func TestP18_3_Merge(t *testing.T) {
	four := append(square().Points, at(1, 2))
	restored := api.Map{Points: four, Edges: square().Edges, Stands: 1}
	three := blocks(2, []int{0, 1, 2})
	renumbered := func(m api.Map, numbers ...int) api.Map {
		m.Edges = slices.Clone(m.Edges)
		for i := range m.Edges {
			e := &m.Edges[i]
			e.Left, e.Right = numbers[e.Left+1], numbers[e.Right+1]
		}
		m.Edges = slices.DeleteFunc(m.Edges, func(e api.Edge) bool { return e.Left == e.Right })
		m.Stands--
		return m
	}
	for i, x := range []struct {
		m    api.Map
		a, b int
		want api.Map
		from [][]int
		e    int
	}{
		{divided(), 0, 1, restored, [][]int{{0, 1}}, api.OK},
		{divided(), 1, 0, restored, [][]int{{0, 1}}, api.OK},
		{three, 0, 1, renumbered(three, -1, 0, 0, 1), [][]int{{0, 1}, {2}}, api.OK},
		{three, 1, 2, renumbered(three, -1, 0, 1, 1), [][]int{{0}, {1, 2}}, api.OK},
		{three, 2, 0, renumbered(three, -1, 0, 1, 0), [][]int{{0, 2}, {1}}, api.OK}, // no neighbours
		{divided(), 0, 0, api.Map{}, nil, api.ErrArg},
		{divided(), 1, 1, api.Map{}, nil, api.ErrArg},
		{square(), 0, 0, api.Map{}, nil, api.ErrArg},
		{divided(), 0, 2, api.Map{}, nil, api.ErrRange},
		{divided(), 2, 0, api.Map{}, nil, api.ErrRange},
		{divided(), -1, 0, api.Map{}, nil, api.ErrRange},
		{divided(), 0, -1, api.Map{}, nil, api.ErrRange},
		{divided(), 2, 2, api.Map{}, nil, api.ErrRange},
		{divided(), -1, -1, api.Map{}, nil, api.ErrRange},
		{divided(), highest, lowest, api.Map{}, nil, api.ErrRange},
		{divided(), 0, highest, api.Map{}, nil, api.ErrRange},
		{api.Map{}, 0, 1, api.Map{}, nil, api.ErrRange},
		{api.Map{Points: make([]api.Point, 65), Stands: 2}, 5, 5, api.Map{}, nil, api.ErrLimit},
		{api.Map{Stands: 2}, 5, 5, api.Map{}, nil, api.ErrNone},
		{api.Map{Points: square().Points, Edges: square().Edges[1:], Stands: 1}, 0, 0, api.Map{}, nil, api.ErrConflict},
	} {
		if m, from, e := landbook.Merge(x.m, x.a, x.b); e != x.e || !sameMap(m, x.want) || !sameLists(from, x.from) {
			t.Error(i, m, from, e)
		}
	}
}

func TestP18_4_Example(t *testing.T) {
	m, from, e := landbook.Split(square(), 0, chain())
	if e != api.OK || !sameMap(m, divided()) || !sameLists(from, [][]int{{0}, {0}}) {
		t.Error(m, from, e)
	}
	if !slices.Equal(areas(m), []int{12, 20}) {
		t.Error(areas(m))
	}
	// The other way round the parts have each other's numbers.
	back := chain()
	slices.Reverse(back)
	want := divided()
	want.Edges = []api.Edge{edge(0, 1, 0, -1), edge(1, 2, 0, -1), edge(2, 3, 1, -1), edge(3, 0, 1, -1), edge(2, 4, 0, 1), edge(4, 0, 0, 1)}
	if m, from, e := landbook.Split(square(), 0, back); e != api.OK || !sameMap(m, want) || !sameLists(from, [][]int{{0}, {0}}) {
		t.Error(m, from, e)
	}
	// Without inner points.
	want = api.Map{Points: square().Points, Stands: 2}
	want.Edges = []api.Edge{edge(0, 1, 0, -1), edge(1, 2, 1, -1), edge(2, 3, 1, -1), edge(3, 0, 0, -1), edge(1, 3, 0, 1)}
	if m, from, e := landbook.Split(square(), 0, []api.Point{at(4, 0), at(0, 4)}); e != api.OK || !sameMap(m, want) || !sameLists(from, [][]int{{0}, {0}}) {
		t.Error(m, from, e)
	}
}

// ringed returns a map whose stand 0 has an island, the stand 1, and whose stand 2 is a part of its own.
func ringed() api.Map {
	return blocks(4, []int{0, 0, 0, -1, 2}, []int{0, 1, 0, -1, -1}, []int{0, 0, 0, -1, -1})
}

// pinched returns a map whose stand 0 has two parts that touch in a point.
func pinched() api.Map {
	return blocks(4, []int{0, -1}, []int{-1, 0})
}

// pierced returns a map whose stand 0 has a hole that touches its boundary in a point.
func pierced() api.Map {
	return blocks(4, []int{-1, 0, 0}, []int{0, -1, 0}, []int{0, 0, 0})
}

func TestP18_4_Errors(t *testing.T) {
	l := func(points ...int) []api.Point {
		var way []api.Point
		for i := 0; i < len(points); i += 2 {
			way = append(way, at(points[i], points[i+1]))
		}
		return way
	}
	zigzag := func(points int) []api.Point {
		way := l(0, 0)
		for i := 1; i < points-1; i++ {
			way = append(way, at(3*i, 3*i+i%2))
		}
		return append(way, at(40, 40))
	}
	withPoint := square()
	withPoint.Points = append(withPoint.Points, at(2, 2), at(9, 9))
	bent := api.Map{Points: l(0, 0, 8, 0, 8, 8, 4, 4, 0, 8), Stands: 1}
	for i := range 5 {
		bent.Edges = append(bent.Edges, edge(i, (i+1)%5, 0, -1))
	}
	row := blocks(4, []int{0, 1})
	for i, x := range []struct {
		m     api.Map
		stand int
		chain []api.Point
		e     int
	}{
		{square(), 0, chain(), api.OK},
		{square(), 0, l(0, 0, 1, 1, 1, 2, 1, 3, 2, 3, 2, 2, 3, 2, 3, 1, 4, 4), api.OK},
		{blocks(40, []int{0}), 0, zigzag(2), api.OK},
		{blocks(40, []int{0}), 0, zigzag(10), api.OK},
		// The map and the stand.
		{api.Map{}, 0, chain(), api.ErrRange},
		{api.Map{Stands: 1}, 5, nil, api.ErrNone},
		{api.Map{Points: square().Points, Edges: square().Edges[1:], Stands: 1}, 5, nil, api.ErrConflict},
		{square(), 1, chain(), api.ErrRange},
		{square(), -1, chain(), api.ErrRange},
		{square(), highest, nil, api.ErrRange},
		{square(), lowest, nil, api.ErrRange},
		// The chain.
		{square(), 0, nil, api.ErrForm},
		{square(), 0, l(0, 0), api.ErrForm},
		{blocks(40, []int{0}), 0, zigzag(11), api.ErrForm},
		{blocks(40, []int{0}), 0, zigzag(12), api.ErrForm},
		{square(), 0, l(0, 0, 0, 0), api.ErrForm},
		{square(), 0, l(0, 0, 1, 2, 0, 0), api.ErrForm},
		{square(), 0, l(2, 0, 4, 4), api.ErrForm}, // in the middle of an edge
		{square(), 0, l(4, 4, 2, 0), api.ErrForm},
		{square(), 0, l(1, 2, 4, 4), api.ErrForm},
		{square(), 0, l(9, 9, 4, 4), api.ErrForm},
		{withPoint, 0, l(0, 0, 2, 2), api.ErrForm}, // a point without edges
		{withPoint, 0, l(2, 2, 0, 0), api.ErrForm},
		{withPoint, 0, l(0, 0, 2, 2, 4, 4), api.ErrForm},
		{withPoint, 0, l(0, 0, 9, 9, 4, 4), api.ErrForm},
		{withPoint, 0, l(0, 0, 4, 4), api.OK}, // through a point without edges
		{square(), 0, l(0, 0, 4, 0, 4, 4), api.ErrForm},
		{square(), 0, l(0, 0, 0, 0, 4, 4), api.ErrForm},
		{square(), 0, l(0, 0, 4, 4, 4, 4), api.ErrForm},
		{square(), 0, l(0, 0, 1, 2, 1, 2, 4, 4), api.ErrForm},
		{square(), 0, l(0, 0, 1, 2, 3, 2, 1, 2, 4, 4), api.ErrForm},
		{row, 0, l(0, 0, 8, 0), api.ErrForm}, // a point of another stand
		{row, 1, l(0, 0, 8, 0), api.ErrForm},
		// The boundary.
		{ringed(), 0, l(0, 0, 12, 12), api.ErrForm},
		{ringed(), 0, l(0, 0, 4, 4), api.ErrForm},
		{ringed(), 1, l(4, 4, 8, 8), api.OK},
		{ringed(), 2, l(16, 0, 20, 4), api.OK},
		{pinched(), 0, l(0, 0, 4, 4), api.ErrForm},
		{pierced(), 0, l(4, 0, 12, 12), api.ErrForm},
		{blocks(4, []int{0, -1, 0}), 0, l(0, 0, 4, 4), api.ErrForm},
		{blocks(4, []int{0, 1, 0}), 0, l(0, 0, 4, 4), api.ErrForm},
		{blocks(4, []int{0, 1, 0}), 1, l(4, 0, 8, 4), api.OK},
		// The result.
		{square(), 0, l(0, 0, 4, 0), api.ErrExist},
		{square(), 0, l(4, 0, 0, 0), api.ErrExist},
		{square(), 0, l(0, 0, -1, 2, 4, 4), api.ErrRange},
		{square(), 0, l(0, 0, 100001, 2, 4, 4), api.ErrRange},
		{square(), 0, l(0, 0, highest, lowest, 4, 4), api.ErrRange},
		{square(), 0, l(0, 0, 2, 0, 4, 4), api.ErrOrder},             // along an edge
		{square(), 0, l(0, 0, 5, 3, 4, 4), api.ErrOrder},             // across an edge
		{square(), 0, l(0, 0, 3, 2, 3, 1, 1, 2, 4, 4), api.ErrOrder}, // across itself
		{square(), 0, l(0, 0, 3, 2, 3, 3, 3, 1, 4, 4), api.ErrOrder}, // back along itself
		{square(), 0, l(4, 4, 5, 2, 4, 0), api.ErrConflict},          // outside
		{square(), 0, l(4, 0, 5, 2, 4, 4), api.ErrConflict},
		{bent, 0, l(8, 8, 0, 8), api.ErrConflict},
		{bent, 0, l(0, 8, 8, 8), api.ErrConflict},
		{bent, 0, l(0, 0, 4, 4), api.OK},
		{bent, 0, l(8, 0, 0, 8), api.ErrOrder}, // through a point of the boundary
		{row, 0, l(4, 0, 8, 4), api.ErrForm},
		{row, 0, l(4, 0, 5, 2, 4, 4), api.ErrConflict}, // through the other stand
		{row, 0, l(4, 0, 3, 2, 4, 4), api.OK},
		{row, 0, l(4, 4, 3, 2, 4, 0), api.OK},
	} {
		m, from, e := landbook.Split(x.m, x.stand, x.chain)
		if e != x.e || (e != api.OK && (!nothing(m) || !nothing(from))) {
			t.Error(i, m, from, e, x.e)
		}
	}
}

// crowded returns a map with so many stands, points and edges: a row of squares, some of which have points in the middle of their upper sides, and points without edges.
func crowded(stands, points, edges int) api.Map {
	var row []int
	for i := range stands {
		row = append(row, i)
	}
	m := blocks(200, row)
	for i := 0; len(m.Edges) < edges; i++ {
		x := slices.IndexFunc(m.Edges, func(e api.Edge) bool {
			return m.Points[e.A].Y == 200 && m.Points[e.B].Y == 200 && m.Points[e.B].X-m.Points[e.A].X > 1
		})
		e := m.Edges[x]
		middle := at((m.Points[e.A].X+m.Points[e.B].X)/2, 200)
		m.Points = append(m.Points, middle)
		m.Edges[x].B = len(m.Points) - 1
		m.Edges = append(m.Edges, edge(len(m.Points)-1, e.B, e.Left, e.Right))
	}
	for i := 0; len(m.Points) < points; i++ {
		m.Points = append(m.Points, at(i, 9000))
	}
	return m
}

// TestP18_4_Limits divides maps that have just as much as there may be behind that, and as much as there may be before.
func TestP18_4_Limits(t *testing.T) {
	straight, bent := []api.Point{at(0, 0), at(200, 200)}, []api.Point{at(0, 0), at(100, 101), at(200, 200)}
	wrong, far := []api.Point{at(0, 0), at(0, 1)}, []api.Point{at(0, 0), at(-1, 0), at(200, 200)}
	for i, x := range []struct {
		stands, points, edges int
		chain                 []api.Point
		e                     int
	}{
		{15, 64, 46, straight, api.OK},
		{15, 63, 46, bent, api.OK},
		{16, 34, 49, straight, api.ErrLimit},
		{16, 34, 49, bent, api.ErrLimit},
		{16, 34, 49, wrong, api.ErrForm},
		{16, 34, 49, far, api.ErrLimit},
		{15, 64, 46, bent, api.ErrLimit},
		{15, 64, 46, wrong, api.ErrForm},
		{15, 64, 46, far, api.ErrLimit},
		{15, 63, 46, far, api.ErrRange},
		{1, 62, 62, straight, api.OK},
		{1, 62, 62, bent, api.OK},
		{1, 64, 64, straight, api.OK},
		{1, 64, 64, bent, api.ErrLimit},
	} {
		m := crowded(x.stands, x.points, x.edges)
		if e := cadastre.Check(m); e != api.OK || len(m.Points) != x.points || len(m.Edges) != x.edges {
			t.Fatal(i, e, len(m.Points), len(m.Edges))
		}
		if d, from, e := landbook.Split(m, 0, x.chain); e != x.e || e == api.OK && (d.Stands != x.stands+1 || len(from) != x.stands+1) || e != api.OK && (!nothing(d) || !nothing(from)) {
			t.Error(i, d, from, e)
		}
	}
}

// netted returns a map of 6 rows of 7 squares, some of which are cut along their diagonals. The square in the first corner is the stand 3.
func netted(cuts int) api.Map {
	m := api.Map{Stands: 4}
	inside := func(column, row int) bool { return 0 <= column && column < 7 && 0 <= row && row < 6 }
	cut := func(column, row int) bool {
		number := 7*row + column
		return inside(column, row) && 0 < number && number <= cuts
	}
	lower := func(column, row int) int {
		switch {
		case !inside(column, row):
			return -1
		case column == 0 && row == 0:
			return 3
		}
		return (column + row) % 2
	}
	upper := func(column, row int) int {
		if cut(column, row) {
			return 2
		}
		return lower(column, row)
	}
	for i := range 8 * 7 {
		column, row := i%8, i/8
		m.Points = append(m.Points, at(8*column, 8*row))
		if column < 7 {
			m.Edges = append(m.Edges, edge(i, i+1, lower(column, row), upper(column, row-1)))
		}
		if row < 6 {
			m.Edges = append(m.Edges, edge(i, i+8, lower(column-1, row), upper(column, row)))
		}
		if cut(column, row) {
			m.Edges = append(m.Edges, edge(i, i+9, upper(column, row), lower(column, row)))
		}
	}
	return m
}

// TestP18_4_Edges divides maps until they have as many edges as there may be.
func TestP18_4_Edges(t *testing.T) {
	for i, x := range []struct {
		cuts  int
		chain []api.Point
		e     int
	}{
		{30, []api.Point{at(0, 0), at(8, 8)}, api.OK},
		{31, []api.Point{at(0, 0), at(8, 8)}, api.ErrLimit},
		{31, []api.Point{at(0, 0), at(8, 9)}, api.ErrForm},
		{29, []api.Point{at(0, 0), at(3, 4), at(8, 8)}, api.OK},
		{30, []api.Point{at(0, 0), at(3, 4), at(8, 8)}, api.ErrLimit},
		{28, []api.Point{at(0, 0), at(3, 4), at(4, 6), at(8, 8)}, api.OK},
		{29, []api.Point{at(0, 0), at(3, 4), at(4, 6), at(8, 8)}, api.ErrLimit},
	} {
		m := netted(x.cuts)
		if e := cadastre.Check(m); e != api.OK || len(m.Edges) != 97+x.cuts {
			t.Fatal(i, e, len(m.Edges))
		}
		d, _, e := landbook.Split(m, 3, x.chain)
		if e != x.e || e == api.OK && len(d.Edges) != len(m.Edges)+len(x.chain)-1 {
			t.Error(i, e)
		}
	}
}
