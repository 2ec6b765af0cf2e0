package species_test

import (
	"math/big"
	"math/rand/v2"
	"slices"
	"testing"

	"coupe/api"
	"coupe/interval"
	"coupe/species"
)

const (
	least = -1 << 63
	most  = 1<<63 - 1
	limit = 1000000000000000
)

func span(lo, hi int) api.Span {
	return api.Span{Lo: lo, Hi: hi}
}

// example returns the table of the chapter.
func example() []api.Species {
	return []api.Species{{Code: "sp", Density: 430, Carbon: 500000, Limit: 1500}, {Code: "be", Density: 680, Carbon: 480000, Limit: 1200}}
}

// row returns a species without an error.
func row(code string) api.Species {
	return api.Species{Code: code, Density: 500, Carbon: 500000, Limit: 900}
}

// with returns such a species after a change.
func with(change func(s *api.Species)) api.Species {
	s := row("oak")
	change(&s)
	return s
}

// full returns a table of as many species as there may be.
func full() []api.Species {
	return []api.Species{row("a"), row("b"), row("c"), row("d"), row("e"), row("f")}
}

// wrong is a table with an error.
type wrong struct {
	name  string
	table []api.Species
	e     int
}

// faulty are tables with errors.
func faulty() []wrong {
	l := []wrong{
		{"too many", append(full(), row("g")), api.ErrLimit},
		{"too many, and all wrong", slices.Repeat([]api.Species{{}}, 7), api.ErrLimit},
		{"empty", []api.Species{{}}, api.ErrForm},
		{"a wrong code, and wrong numbers", []api.Species{{Code: "A", Density: -1}}, api.ErrForm},
		{"a wrong code twice", []api.Species{row(""), row("")}, api.ErrForm},
		{"a wrong number before a wrong code", []api.Species{with(func(s *api.Species) { s.Density = 0 }), row("")}, api.ErrRange},
		{"a wrong code before a wrong number", []api.Species{row(""), with(func(s *api.Species) { s.Density = 0 })}, api.ErrForm},
		{"the same code", []api.Species{row("oak"), row("elm"), row("oak")}, api.ErrExist},
		{"the same code next to it", []api.Species{row("elm"), row("oak"), row("oak")}, api.ErrExist},
		{"the same code, with wrong numbers", []api.Species{row("oak"), with(func(s *api.Species) { s.Limit = 0 })}, api.ErrRange},
		{"the same code before a wrong one", []api.Species{row("oak"), row("oak"), row("")}, api.ErrExist},
		{"the same code before wrong numbers", []api.Species{row("oak"), row("oak"), with(func(s *api.Species) { s.Carbon = 0 })}, api.ErrExist},
		{"wrong in the last species", append(full()[:5], row("x1")), api.ErrForm},
	}
	for _, code := range []string{"", "abcdefg", "Oak", "oaK", "o k", "oak ", " oak", "o1", "`", "{", "é", "öak", "o\x00", "\xff", "abcdeö"} {
		l = append(l, wrong{"the code " + code, []api.Species{row("elm"), row(code)}, api.ErrForm})
	}
	for _, n := range []int{least, -1, 0, most} {
		l = append(l,
			wrong{"density", []api.Species{with(func(s *api.Species) { s.Density = n })}, api.ErrRange},
			wrong{"carbon", []api.Species{with(func(s *api.Species) { s.Carbon = n })}, api.ErrRange},
			wrong{"limit", []api.Species{with(func(s *api.Species) { s.Limit = n })}, api.ErrRange})
	}
	return append(l,
		wrong{"too dense", []api.Species{with(func(s *api.Species) { s.Density = 2001 })}, api.ErrRange},
		wrong{"too much carbon", []api.Species{with(func(s *api.Species) { s.Carbon = api.Million + 1 })}, api.ErrRange},
		wrong{"too thick", []api.Species{with(func(s *api.Species) { s.Limit = api.MaxDiameter + 1 })}, api.ErrRange})
}

// correct are tables without an error.
func correct() [][]api.Species {
	return [][]api.Species{
		nil,
		example(),
		full(),
		{row("a"), row("z"), row("abcdef"), row("zzzzzz"), row("ab"), row("abc")},
		{{Code: "light", Density: 1, Carbon: 1, Limit: 1}},
		{{Code: "heavy", Density: 2000, Carbon: api.Million, Limit: api.MaxDiameter}},
		{{Code: "odd", Density: 999, Carbon: 333333, Limit: 77}, {Code: "cubic", Density: 1000, Carbon: 999999, Limit: 3000}},
	}
}

// TestP10_1_AnyArguments calls all functions with arguments of any form: none panics, and beside an error there is nothing else.
func TestP10_1_AnyArguments(t *testing.T) {
	numbers := []int{least, -limit, -1, 0, 1, 2, 5, 6, 1500, limit, limit + 1, most}
	tables := correct()
	for _, x := range faulty() {
		tables = append(tables, x.table)
	}
	for _, table := range tables {
		for _, a := range numbers {
			for _, b := range numbers {
				if species.Allowed(table, a, b) && species.Check(table) != api.OK {
					t.Error(table, a, b)
				}
				for _, c := range numbers {
					mass, e := species.Mass(table, a, span(b, c))
					carbon, f := species.Carbon(table, a, span(b, c))
					if e != f || e != api.OK && (mass != api.Span{} || carbon != api.Span{}) {
						t.Error(table, a, b, c, mass, e, carbon, f)
					}
				}
			}
		}
		for _, code := range []string{"", "oak", "a", "f", "\xff\x00", string(make([]byte, 5000))} {
			if n, e := species.Find(table, code); e != api.OK && n != 0 {
				t.Error(table, code, n, e)
			}
		}
	}
}

func TestP10_1_ArgumentsAreKept(t *testing.T) {
	table := append(make([]api.Species, 0, 4), example()...)
	spare := table[:4]
	spare[2], spare[3] = row("oak"), row("")
	kept := slices.Clone(spare)
	species.Check(table)
	species.Find(table, "oak")
	species.Allowed(table, 2, 10)
	species.Mass(table, 1, span(0, 10))
	species.Carbon(table, 1, span(0, 10))
	if !slices.Equal(spare, kept) {
		t.Error("arguments were changed")
	}
}

func TestP10_1_Check(t *testing.T) {
	for i, table := range correct() {
		if e := species.Check(table); e != api.OK {
			t.Error(i, e)
		}
	}
	for _, x := range faulty() {
		if e := species.Check(x.table); e != x.e {
			t.Error(x.name, e)
		}
	}
}

// TestP10_1_First finds that the other functions return the error of Check before all others.
func TestP10_1_First(t *testing.T) {
	for _, x := range faulty() {
		for _, number := range []int{-1, 0, 9} {
			for _, v := range []api.Span{span(1, 2), span(2, 1), span(-1, 1), span(0, limit+1)} {
				mass, e := species.Mass(x.table, number, v)
				carbon, f := species.Carbon(x.table, number, v)
				if e != x.e || f != x.e || mass != (api.Span{}) || carbon != (api.Span{}) {
					t.Error(x.name, number, v, mass, e, carbon, f)
				}
			}
			if species.Allowed(x.table, number, 10) {
				t.Error(x.name, number)
			}
		}
		for _, code := range []string{"", "oak", "none", x.table[0].Code} {
			if n, e := species.Find(x.table, code); n != 0 || e != x.e {
				t.Error(x.name, code, n, e)
			}
		}
	}
}

func TestP10_1_Find(t *testing.T) {
	for _, x := range []struct {
		table []api.Species
		code  string
		want  int
		e     int
	}{
		{example(), "sp", 0, api.OK},
		{example(), "be", 1, api.OK},
		{example(), "oak", 0, api.ErrNone},
		{example(), "", 0, api.ErrNone},
		{example(), "b", 0, api.ErrNone},
		{example(), "bee", 0, api.ErrNone},
		{example(), "SP", 0, api.ErrNone},
		{example(), "spruces", 0, api.ErrNone},
		{full(), "f", 5, api.OK},
		{full(), "g", 0, api.ErrNone},
		{nil, "sp", 0, api.ErrNone},
	} {
		if n, e := species.Find(x.table, x.code); n != x.want || e != x.e {
			t.Error(x.code, n, e)
		}
	}
}

func TestP10_1_Allowed(t *testing.T) {
	for _, x := range []struct {
		species, diameter int
		want              bool
	}{
		{0, 1500, true}, {0, 1501, false}, {0, 1, true}, {0, 0, false}, {0, -1, false}, {0, most, false}, {0, least, false},
		{1, 1200, true}, {1, 1201, false}, {1, 1, true}, {1, 0, false},
		{2, 10, false}, {-1, 10, false}, {most, 10, false}, {least, 10, false},
	} {
		if yes := species.Allowed(example(), x.species, x.diameter); yes != x.want {
			t.Error(x, yes)
		}
	}
	if species.Allowed(nil, 0, 10) {
		t.Error("a species of an empty table")
	}
}

func TestP10_1_MassAndCarbon(t *testing.T) {
	heavy := []api.Species{{Code: "heavy", Density: 2000, Carbon: api.Million, Limit: 1}}
	light := []api.Species{{Code: "light", Density: 1, Carbon: 1, Limit: 1}}
	for _, x := range []struct {
		name         string
		table        []api.Species
		species      int
		v            api.Span
		mass, carbon api.Span
		e            int
	}{
		{"of the chapter", example(), 0, span(1000, 1001), span(430, 431), span(215, 216), api.OK},
		{"exact", example(), 1, span(1000, 2000), span(680, 1360), span(326, 653), api.OK},
		{"nothing", example(), 1, span(0, 0), span(0, 0), span(0, 0), api.OK},
		{"one", example(), 1, span(1, 1), span(0, 1), span(0, 1), api.OK},
		{"rounded twice", example(), 0, span(3, 5), span(1, 3), span(0, 2), api.OK},
		{"light", light, 0, span(999, 1001), span(0, 2), span(0, 1), api.OK},
		{"light and much", light, 0, span(limit, limit), span(limit/1000, limit/1000), span(limit/1000/api.Million, limit/1000/api.Million), api.OK},
		{"heavy", heavy, 0, span(7, limit/2), span(14, limit), span(14, limit), api.OK},
		{"too heavy", heavy, 0, span(7, limit/2+1), span(0, 0), span(0, 0), api.ErrLimit},
		{"both ends too heavy", heavy, 0, span(limit, limit), span(0, 0), span(0, 0), api.ErrLimit},
		{"no such species", example(), 2, span(1, 2), span(0, 0), span(0, 0), api.ErrRange},
		{"a species below 0", example(), -1, span(1, 2), span(0, 0), span(0, 0), api.ErrRange},
		{"no species at all", nil, 0, span(1, 2), span(0, 0), span(0, 0), api.ErrRange},
		{"no such species, and no interval", example(), most, span(2, 1), span(0, 0), span(0, 0), api.ErrRange},
		{"ends in the wrong order", example(), 1, span(2, 1), span(0, 0), span(0, 0), api.ErrArg},
		{"ends in the wrong order, below 0 and too large", example(), 1, span(2, least), span(0, 0), span(0, 0), api.ErrArg},
		{"an end too large", example(), 1, span(0, limit+1), span(0, 0), span(0, 0), api.ErrLimit},
		{"below 0, and an end too large", example(), 1, span(-1, limit+1), span(0, 0), span(0, 0), api.ErrLimit},
		{"far below 0", example(), 1, span(least, most), span(0, 0), span(0, 0), api.ErrLimit},
		{"below 0", example(), 1, span(-1, 1), span(0, 0), span(0, 0), api.ErrArg},
		{"all below 0", example(), 1, span(-limit, -1), span(0, 0), span(0, 0), api.ErrArg},
		{"below 0, and too heavy", heavy, 0, span(-1, limit), span(0, 0), span(0, 0), api.ErrArg},
	} {
		if s, e := species.Mass(x.table, x.species, x.v); s != x.mass || e != x.e {
			t.Error(x.name, "Mass", s, e)
		}
		if s, e := species.Carbon(x.table, x.species, x.v); s != x.carbon || e != x.e {
			t.Error(x.name, "Carbon", s, e)
		}
	}
}

// part multiplies an interval by a quotient, and rounds it outwards.
func part(s api.Span, num, den int) api.Span {
	product := func(n, up int) int {
		z := new(big.Int).Mul(big.NewInt(int64(n)), big.NewInt(int64(num)))
		z.Add(z, big.NewInt(int64(up)))
		return int(z.Div(z, big.NewInt(int64(den))).Int64())
	}
	return span(product(s.Lo, 0), product(s.Hi, den-1))
}

// wood makes a table of one species, and a volume of which a mass can be computed.
func wood(r *rand.Rand) ([]api.Species, api.Span) {
	s := api.Species{Code: "any", Density: 1 + r.IntN(2000), Carbon: 1 + r.IntN(api.Million), Limit: 1}
	greatest := 1 + r.IntN(limit/2)>>r.IntN(49)
	a, b := r.IntN(greatest), r.IntN(greatest)
	return []api.Species{s}, span(min(a, b), max(a, b))
}

func TestP10_1_Definitions(t *testing.T) {
	r := rand.New(rand.NewPCG(10, 1))
	for range 50000 {
		table, v := wood(r)
		mass, e := species.Mass(table, 0, v)
		if want := part(v, table[0].Density, 1000); mass != want || e != api.OK {
			t.Fatal(table, v, mass, e)
		}
		carbon, e := species.Carbon(table, 0, v)
		if want := part(mass, table[0].Carbon, api.Million); carbon != want || e != api.OK {
			t.Fatal(table, v, carbon, e)
		}
	}
}

func TestP10_2_Find(t *testing.T) {
	for _, table := range correct() {
		for i, s := range table {
			if n, e := species.Find(table, s.Code); n != i || e != api.OK {
				t.Error(s.Code, n, e)
			}
		}
	}
}

// TestP10_2_Consequences compares the carbon with the mass, and masses and carbon of volumes with those of greater ones and of sums.
func TestP10_2_Consequences(t *testing.T) {
	r := rand.New(rand.NewPCG(10, 2))
	figures := func(table []api.Species, v api.Span) (mass, carbon api.Span) {
		mass, e := species.Mass(table, 0, v)
		carbon, f := species.Carbon(table, 0, v)
		if e != api.OK || f != api.OK {
			t.Fatal(table, v, e, f)
		}
		return mass, carbon
	}
	for range 20000 {
		table, v := wood(r)
		_, w := wood(r)
		v, w = span(v.Lo/2, v.Hi/2), span(w.Lo/2, w.Hi/2)
		mass, carbon := figures(table, v)
		if carbon.Lo > mass.Lo || carbon.Hi > mass.Hi || carbon.Lo < 0 {
			t.Fatal(table, v, mass, carbon)
		}
		if (mass.Hi-mass.Lo-2)*1000 > (v.Hi-v.Lo)*table[0].Density {
			t.Fatal(table, v, "a wide mass", mass)
		}
		more, _ := interval.Add(v, w)
		massOfSum, carbonOfSum := figures(table, more)
		if massOfSum.Lo < mass.Lo || massOfSum.Hi < mass.Hi || carbonOfSum.Lo < carbon.Lo || carbonOfSum.Hi < carbon.Hi {
			t.Fatal(table, v, w, "less of more")
		}
		massOfOther, _ := figures(table, w)
		if sum, _ := interval.Add(mass, massOfOther); !interval.Within(massOfSum, sum) {
			t.Fatal(table, v, w, sum, massOfSum)
		}
	}
}
