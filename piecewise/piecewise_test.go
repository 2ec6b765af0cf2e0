package piecewise_test

import (
	"math/big"
	"math/rand/v2"
	"slices"
	"testing"

	"coupe/api"
	"coupe/piecewise"
)

const (
	least = -1 << 63
	most  = 1<<63 - 1
	limit = 1000000000000000
)

func frac(num, den int) api.Frac {
	return api.Frac{Num: num, Den: den}
}

// whole returns fractions with the denominator 1.
func whole(numbers ...int) []api.Frac {
	var l []api.Frac
	for _, n := range numbers {
		l = append(l, frac(n, 1))
	}
	return l
}

func piece(from, to int, coef ...api.Frac) api.Piece {
	return api.Piece{From: from, To: to, Coef: coef}
}

// example returns the function of the chapter, with a constant coefficient of its second piece.
func example(second int) []api.Piece {
	return []api.Piece{piece(0, 100, frac(13, 1), frac(1, 2)), piece(100, 300, frac(second, 1), frac(1, 5))}
}

// steps returns as many pieces as there may be, each as long as they can be together.
func steps() []api.Piece {
	var l []api.Piece
	for i := range api.MaxPieces {
		l = append(l, piece(375*i, 375*(i+1), frac(i*i, 1)))
	}
	return l
}

// steep has values that are too large from the argument 1001 on.
func steep() []api.Piece {
	return []api.Piece{piece(0, api.MaxArgument, whole(0, 0, 0, 1000000)...)}
}

// fine has values that are too fine at most arguments.
func fine() []api.Piece {
	return []api.Piece{piece(0, 10, frac(1, 999999937), frac(1, 999999893))}
}

// correct are functions without an error.
func correct() map[string][]api.Piece {
	return map[string][]api.Piece{
		"of the chapter":            example(43),
		"with a step upwards":       example(44),
		"with a step downwards":     example(20),
		"no coefficients":           {piece(5, 9)},
		"the shortest":              {piece(0, 1, frac(7, 3))},
		"the shortest at the end":   {piece(api.MaxArgument-1, api.MaxArgument, frac(-7, 3), frac(1, 1))},
		"the longest":               {piece(0, api.MaxArgument, whole(1000000, -1000000, 1000000)...)},
		"as many as there may be":   steps(),
		"a parabola":                {piece(0, 40, whole(400, -40, 1)...)},
		"a cubic":                   {piece(2, 30, frac(-1, 3), frac(250, 7), frac(-25, 6), frac(1, 9))},
		"zero coefficients":         {piece(0, 5, whole(0, 0, 0, 0)...), piece(5, 6, whole(0)...), piece(6, 9)},
		"the greatest coefficients": {piece(0, 9, frac(1000000, 1), frac(-1000000, 999999999), frac(1, 1000000000))},
		"below 0":                   {piece(0, 7, frac(-1, 2)), piece(7, 9, frac(-9, 2), frac(1, 3))},
		"values too large":          steep(),
		"values too fine":           fine(),
	}
}

// wrong is a function with an error.
type wrong struct {
	name string
	l    []api.Piece
	e    int
}

// faulty are functions with errors.
func faulty() []wrong {
	many := append(steps()[:7], piece(2625, 2800), piece(2800, 3000))
	l := []wrong{
		{"no pieces", nil, api.ErrNone},
		{"an empty list", []api.Piece{}, api.ErrNone},
		{"too many", many, api.ErrLimit},
		{"too many, and all wrong", slices.Repeat([]api.Piece{{From: -1}}, 9), api.ErrLimit},
		{"an empty piece", []api.Piece{{}}, api.ErrOrder},
		{"From below 0", []api.Piece{piece(-1, 5)}, api.ErrRange},
		{"From far below 0", []api.Piece{piece(least, 5)}, api.ErrRange},
		{"To above the greatest argument", []api.Piece{piece(0, api.MaxArgument+1)}, api.ErrRange},
		{"To far above", []api.Piece{piece(0, most)}, api.ErrRange},
		{"From and To below 0", []api.Piece{piece(-1, -5)}, api.ErrRange},
		{"From and To above", []api.Piece{piece(4000, 3500)}, api.ErrRange},
		{"From above the greatest argument", []api.Piece{piece(4000, 3000)}, api.ErrOrder},
		{"To is From", []api.Piece{piece(5, 5)}, api.ErrOrder},
		{"To is below From", []api.Piece{piece(5, 4)}, api.ErrOrder},
		{"To far below 0", []api.Piece{piece(5, least)}, api.ErrOrder},
		{"a gap", []api.Piece{piece(0, 5), piece(6, 9)}, api.ErrOrder},
		{"an overlap", []api.Piece{piece(0, 5), piece(4, 9)}, api.ErrOrder},
		{"the same piece again", []api.Piece{piece(0, 5), piece(0, 5)}, api.ErrOrder},
		{"the wrong order", []api.Piece{piece(5, 9), piece(0, 5)}, api.ErrOrder},
		{"a gap behind the second", []api.Piece{piece(0, 5), piece(5, 9), piece(10, 11)}, api.ErrOrder},
		{"too many coefficients", []api.Piece{piece(0, 5, whole(1, 2, 3, 4, 5)...)}, api.ErrLimit},
		{"too many coefficients, and all wrong", []api.Piece{piece(0, 5, make([]api.Frac, 5)...)}, api.ErrLimit},
		{"no fraction", []api.Piece{piece(0, 5, frac(1, 0))}, api.ErrForm},
		{"not in lowest terms", []api.Piece{piece(0, 5, frac(1, 1), frac(2, 4))}, api.ErrForm},
		{"a numerator beyond all limits", []api.Piece{piece(0, 5, frac(limit+1, 1))}, api.ErrLimit},
		{"a denominator beyond all limits", []api.Piece{piece(0, 5, frac(1, limit+1))}, api.ErrLimit},
		{"no fraction before one beyond all limits", []api.Piece{piece(0, 5, frac(1, 0), frac(limit+1, 1))}, api.ErrForm},
		{"one beyond all limits before no fraction", []api.Piece{piece(0, 5, frac(least, 1), frac(1, 0))}, api.ErrLimit},
		{"a large numerator before no fraction", []api.Piece{piece(0, 5, frac(1000001, 1), frac(1, 0))}, api.ErrForm},
		{"a large numerator", []api.Piece{piece(0, 5, frac(1000001, 1))}, api.ErrRange},
		{"a large numerator below 0", []api.Piece{piece(0, 5, frac(1, 1), frac(-1000001, 1))}, api.ErrRange},
		{"a large denominator", []api.Piece{piece(0, 5, frac(1, 1), frac(1, 2), frac(1, 3), frac(1, 1000000001))}, api.ErrRange},
	}
	// The error of the first piece that has one is returned, and in each piece they have an order.
	marks := []wrong{
		{"range", []api.Piece{piece(5, 3001, make([]api.Frac, 5)...)}, api.ErrRange},
		{"order", []api.Piece{piece(9, 9, make([]api.Frac, 5)...)}, api.ErrOrder},
		{"coefficients", []api.Piece{piece(5, 9, slices.Repeat([]api.Frac{frac(2, 2)}, 5)...)}, api.ErrLimit},
		{"fractions", []api.Piece{piece(5, 9, frac(1000001, 1), frac(2, 2))}, api.ErrForm},
		{"size", []api.Piece{piece(5, 9, frac(1000001, 1))}, api.ErrRange},
	}
	for _, x := range marks {
		l = append(l, x)
		l = append(l, wrong{x.name + ", second", append([]api.Piece{piece(0, 5)}, x.l...), x.e})
		for _, y := range marks {
			l = append(l, wrong{x.name + " before " + y.name, append(slices.Clone(x.l), y.l...), x.e})
			l = append(l, wrong{x.name + " before " + y.name + ", third", slices.Concat([]api.Piece{piece(0, 4), piece(4, 5)}, x.l, y.l), x.e})
		}
	}
	return l
}

// answers returns whether some function answers something, and the errors of all.
func answers(l []api.Piece, a, b int) (something bool, errors []int) {
	from, to, e1 := piecewise.Domain(l)
	value, e2 := piecewise.Eval(l, a)
	continuous, e3 := piecewise.Continuous(l)
	increasing, e4 := piecewise.Increasing(l)
	span, e5 := piecewise.Range(l, a, b)
	something = from != 0 || to != 0 || value != api.Frac{} || continuous || increasing || span != api.Span{}
	return something, []int{e1, e2, e3, e4, e5}
}

// TestP12_1_AnyArguments calls all functions with arguments of any form: none panics, and beside an error there is nothing else.
func TestP12_1_AnyArguments(t *testing.T) {
	r := rand.New(rand.NewPCG(12, 1))
	numbers := []int{least, -limit, -1, 0, 1, 2, 3, 5, 10, 3000, 3001, limit, limit + 1, most}
	pick := func() int { return numbers[r.IntN(len(numbers))] }
	near := func() int { return r.IntN(8) - 1 }
	for range 50000 {
		next := []func() int{pick, near, near}[r.IntN(3)]
		l := make([]api.Piece, r.IntN(4))
		for i := range l {
			l[i] = piece(next(), next())
			if i > 0 && r.IntN(8) > 0 {
				l[i].From, l[i].To = l[i-1].To, l[i-1].To+1
			}
			for range r.IntN(6) {
				l[i].Coef = append(l[i].Coef, frac(next(), r.IntN(3)))
			}
		}
		e := piecewise.Check(l)
		something, errors := answers(l, next(), next())
		if e != api.OK && something {
			t.Fatal(l, "results beside the error", e)
		}
		for _, f := range errors {
			if e != api.OK && f != e {
				t.Fatal(l, e, errors)
			}
		}
	}
	for name, l := range correct() {
		for _, a := range numbers {
			for _, b := range numbers {
				if value, e := piecewise.Eval(l, a); (e != api.OK) != (value == api.Frac{}) {
					t.Error(name, a, value, e)
				}
				if span, e := piecewise.Range(l, a, b); e != api.OK && span != (api.Span{}) {
					t.Error(name, a, b, span, e)
				}
			}
		}
	}
}

func TestP12_1_ArgumentsAreKept(t *testing.T) {
	l := append(make([]api.Piece, 0, 4), example(43)...)
	l[0].Coef = append(make([]api.Frac, 0, 4), l[0].Coef...)
	pieces, coef := l[:4], l[0].Coef[:4]
	pieces[2], pieces[3] = piece(7, 8), piece(-1, 0)
	coef[2], coef[3] = frac(5, 5), frac(6, 0)
	for range 2 {
		answers(l, 1, 299)
	}
	if pieces[0].From != 0 || pieces[0].To != 100 || pieces[1].From != 100 || pieces[1].To != 300 || pieces[2].From != 7 || pieces[3].From != -1 {
		t.Error("pieces were changed", pieces)
	}
	if !slices.Equal(coef, []api.Frac{frac(13, 1), frac(1, 2), frac(5, 5), frac(6, 0)}) {
		t.Error("coefficients were changed", coef)
	}
}

func TestP12_1_Check(t *testing.T) {
	for name, l := range correct() {
		if e := piecewise.Check(l); e != api.OK {
			t.Error(name, e)
		}
	}
	for _, x := range faulty() {
		if e := piecewise.Check(x.l); e != x.e {
			t.Error(x.name, e)
		}
	}
}

// TestP12_1_First finds that the other functions return the error of Check first.
func TestP12_1_First(t *testing.T) {
	for _, x := range faulty() {
		for _, a := range []int{least, -1, 0, 5, 3001, most} {
			something, errors := answers(x.l, a, 5)
			if something || slices.ContainsFunc(errors, func(e int) bool { return e != x.e }) {
				t.Error(x.name, a, something, errors)
			}
		}
	}
}

func TestP12_1_Domain(t *testing.T) {
	for name, want := range map[string][2]int{
		"of the chapter": {0, 300}, "no coefficients": {5, 9}, "the shortest at the end": {2999, 3000}, "as many as there may be": {0, 3000}, "a cubic": {2, 30}, "values too large": {0, 3000},
	} {
		if from, to, e := piecewise.Domain(correct()[name]); from != want[0] || to != want[1] || e != api.OK {
			t.Error(name, from, to, e)
		}
	}
}

func TestP12_1_Eval(t *testing.T) {
	for _, x := range []struct {
		name string
		x    int
		want api.Frac
		e    int
	}{
		{"of the chapter", 0, frac(13, 1), api.OK},
		{"of the chapter", 1, frac(27, 2), api.OK},
		{"of the chapter", 99, frac(125, 2), api.OK},
		{"of the chapter", 100, frac(63, 1), api.OK},
		{"of the chapter", 300, frac(103, 1), api.OK},
		{"of the chapter", -1, api.Frac{}, api.ErrRange},
		{"of the chapter", 301, api.Frac{}, api.ErrRange},
		{"of the chapter", least, api.Frac{}, api.ErrRange},
		{"of the chapter", most, api.Frac{}, api.ErrRange},
		{"with a step upwards", 99, frac(125, 2), api.OK},
		{"with a step upwards", 100, frac(64, 1), api.OK},
		{"with a step downwards", 100, frac(40, 1), api.OK},
		{"with a step downwards", 101, frac(201, 5), api.OK},
		{"no coefficients", 4, api.Frac{}, api.ErrRange},
		{"no coefficients", 5, frac(0, 1), api.OK},
		{"no coefficients", 9, frac(0, 1), api.OK},
		{"no coefficients", 10, api.Frac{}, api.ErrRange},
		{"as many as there may be", 374, frac(0, 1), api.OK},
		{"as many as there may be", 375, frac(1, 1), api.OK},
		{"as many as there may be", 2624, frac(36, 1), api.OK},
		{"as many as there may be", 2625, frac(49, 1), api.OK},
		{"as many as there may be", 3000, frac(49, 1), api.OK},
		{"as many as there may be", 3001, api.Frac{}, api.ErrRange},
		{"a parabola", 19, frac(1, 1), api.OK},
		{"a cubic", 2, frac(-21+4500-1050+56, 63), api.OK}, // -1/3 + 500/7 - 50/3 + 8/9
		{"below 0", 8, frac(-11, 6), api.OK},
		{"values too large", 1000, frac(limit, 1), api.OK},
		{"values too large", 1001, api.Frac{}, api.ErrLimit},
		{"values too large", 3000, api.Frac{}, api.ErrLimit},
		{"values too large", 3001, api.Frac{}, api.ErrRange},
		{"values too fine", 0, frac(1, 999999937), api.OK},
		{"values too fine", 1, api.Frac{}, api.ErrLimit},
		{"values too fine", 11, api.Frac{}, api.ErrRange},
	} {
		if y, e := piecewise.Eval(correct()[x.name], x.x); y != x.want || e != x.e {
			t.Error(x.name, x.x, y, e)
		}
	}
	// By Horner's rule the value becomes too large on the way, though it is not in the end.
	back := []api.Piece{piece(0, 2000, whole(-2000, 1, 0, 1000000)...)}
	if y, e := piecewise.Eval(back, 1000); y != (api.Frac{}) || e != api.ErrLimit {
		t.Error("on the way", y, e)
	}
	if y, e := piecewise.Eval(back, 999); y != frac(997002999000000+999-2000, 1) || e != api.OK {
		t.Error("less far", y, e)
	}
}

func TestP12_1_Continuous(t *testing.T) {
	for _, x := range []struct {
		name string
		l    []api.Piece
		want bool
		e    int
	}{
		{"of the chapter", example(43), true, api.OK},
		{"with a step upwards", example(44), false, api.OK},
		{"with a step downwards", example(20), false, api.OK},
		{"one piece", steep(), true, api.OK},
		{"one piece with values too fine", fine(), true, api.OK},
		{"zeros", correct()["zero coefficients"], true, api.OK},
		{"steps", steps(), false, api.OK},
		{"a step at the first joint", []api.Piece{piece(0, 3, whole(1)...), piece(3, 6), piece(6, 9)}, false, api.OK},
		{"a step at the last joint", []api.Piece{piece(0, 3), piece(3, 6), piece(6, 9, whole(1)...)}, false, api.OK},
		{"a step of very little", []api.Piece{piece(0, 3, frac(1, 3)), piece(3, 6, frac(333333, 1000000))}, false, api.OK},
		{"below 0", correct()["below 0"], false, api.OK},
		{"the curves agree before the joint", []api.Piece{piece(0, 3, whole(0, 1)...), piece(3, 6, whole(2)...)}, false, api.OK},
		{"the curves agree at the joint", []api.Piece{piece(0, 3, whole(0, 1)...), piece(3, 6, whole(3)...)}, true, api.OK},
		{"too large behind the joint", []api.Piece{piece(0, 500, whole(0, 0, 250000)...), piece(500, 3000, whole(0, 0, 0, 500)...)}, true, api.OK},
		{"too large at the end", []api.Piece{piece(0, 1, whole(1000000)...), piece(1, 3000, whole(0, 0, 0, 1000000)...)}, true, api.OK},
		{"too large at the joint, from before", []api.Piece{piece(0, 1001, whole(0, 0, 0, 1000000)...), piece(1001, 1002)}, false, api.ErrLimit},
		{"too large at the joint, from behind", []api.Piece{piece(0, 1001), piece(1001, 1002, whole(0, 0, 0, 1000000)...)}, false, api.ErrLimit},
		{"a step before one that is too large", []api.Piece{piece(0, 1), piece(1, 1001, whole(0, 0, 0, 1000000)...), piece(1001, 1002)}, false, api.ErrLimit},
		{"one that is too large before a step", []api.Piece{piece(0, 1001, whole(0, 0, 0, 1000000)...), piece(1001, 1002), piece(1002, 1003, whole(1)...)}, false, api.ErrLimit},
	} {
		if yes, e := piecewise.Continuous(x.l); yes != x.want || e != x.e {
			t.Error(x.name, yes, e)
		}
	}
}

func TestP12_1_Increasing(t *testing.T) {
	for _, x := range []struct {
		name string
		l    []api.Piece
		want bool
		e    int
	}{
		{"of the chapter", example(43), true, api.OK},
		{"with a step upwards", example(44), true, api.OK},
		{"with a step downwards", example(20), false, api.OK},
		{"steps", steps(), true, api.OK},
		{"always the same", []api.Piece{piece(0, 9, frac(1, 3))}, true, api.OK},
		{"no coefficients", correct()["no coefficients"], true, api.OK},
		{"a parabola", correct()["a parabola"], false, api.OK},
		{"half a parabola", []api.Piece{piece(20, 40, whole(400, -40, 1)...)}, true, api.OK},
		{"a bit more than half", []api.Piece{piece(19, 40, whole(400, -40, 1)...)}, false, api.OK},
		{"a dent between two arguments", []api.Piece{piece(0, 1, whole(0, -1, 1)...)}, true, api.OK},
		{"less at the end", []api.Piece{piece(0, 5, whole(3)...), piece(5, 6, whole(18, -3)...)}, false, api.OK},
		{"less at the beginning", []api.Piece{piece(0, 1, whole(1)...), piece(1, 9)}, false, api.OK},
		{"less by very little", []api.Piece{piece(0, 3, frac(1, 3)), piece(3, 6, frac(333333, 1000000))}, false, api.OK},
		{"below 0", []api.Piece{piece(0, 7, frac(-9, 2)), piece(7, 9, frac(-7, 2))}, true, api.OK},
		{"too large", steep(), false, api.ErrLimit},
		{"too fine", fine(), false, api.ErrLimit},
		{"too large at the end alone", []api.Piece{piece(0, 1001, whole(0, 0, 0, 1000000)...)}, false, api.ErrLimit},
		{"not too large up to the end", []api.Piece{piece(0, 1000, whole(0, 0, 0, 1000000)...)}, true, api.OK},
		{"too large at a joint alone, from before", []api.Piece{piece(0, 1001, whole(0, 0, 0, 1000000)...), piece(1001, 1002, whole(0, 1000000, 999999)...)}, false, api.OK},
		{"less, and too large later", []api.Piece{piece(0, 1, whole(1)...), piece(1, 3000, whole(0, 0, 0, 1000000)...)}, false, api.ErrLimit},
		{"less at once, and too large later", []api.Piece{piece(0, 3000, whole(0, -1, 0, 1000000)...)}, false, api.ErrLimit},
	} {
		if yes, e := piecewise.Increasing(x.l); yes != x.want || e != x.e {
			t.Error(x.name, yes, e)
		}
	}
}

func TestP12_1_Range(t *testing.T) {
	for _, x := range []struct {
		name     string
		from, to int
		want     api.Span
		e        int
	}{
		{"of the chapter", 1, 99, api.Span{Lo: 13, Hi: 63}, api.OK},
		{"of the chapter", 1, 1, api.Span{Lo: 13, Hi: 14}, api.OK},
		{"of the chapter", 0, 0, api.Span{Lo: 13, Hi: 13}, api.OK},
		{"of the chapter", 0, 300, api.Span{Lo: 13, Hi: 103}, api.OK},
		{"of the chapter", 300, 300, api.Span{Lo: 103, Hi: 103}, api.OK},
		{"of the chapter", 99, 101, api.Span{Lo: 62, Hi: 64}, api.OK},
		{"of the chapter", -1, 99, api.Span{}, api.ErrRange},
		{"of the chapter", 0, 301, api.Span{}, api.ErrRange},
		{"of the chapter", 2, 1, api.Span{}, api.ErrRange},
		{"of the chapter", 301, 300, api.Span{}, api.ErrRange},
		{"of the chapter", 0, -1, api.Span{}, api.ErrRange},
		{"of the chapter", least, most, api.Span{}, api.ErrRange},
		{"of the chapter", most, least, api.Span{}, api.ErrRange},
		{"with a step downwards", 99, 100, api.Span{Lo: 40, Hi: 63}, api.OK},
		{"with a step downwards", 100, 300, api.Span{Lo: 40, Hi: 80}, api.OK},
		{"a parabola", 0, 40, api.Span{Lo: 0, Hi: 400}, api.OK},
		{"a parabola", 19, 22, api.Span{Lo: 0, Hi: 4}, api.OK},
		{"a parabola", 0, 10, api.Span{Lo: 100, Hi: 400}, api.OK},
		{"no coefficients", 5, 9, api.Span{}, api.OK},
		{"no coefficients", 4, 9, api.Span{}, api.ErrRange},
		{"below 0", 0, 9, api.Span{Lo: -3, Hi: 0}, api.OK},
		{"below 0", 7, 8, api.Span{Lo: -3, Hi: -1}, api.OK},
		{"below 0", 0, 6, api.Span{Lo: -1, Hi: 0}, api.OK},
		{"values too large", 0, 1000, api.Span{Lo: 0, Hi: limit}, api.OK},
		{"values too large", 0, 1001, api.Span{}, api.ErrLimit},
		{"values too large", 1001, 1001, api.Span{}, api.ErrLimit},
		{"values too large", 1001, 1000, api.Span{}, api.ErrRange},
		{"values too large", 1001, 3001, api.Span{}, api.ErrRange},
		{"values too fine", 0, 0, api.Span{Lo: 0, Hi: 1}, api.OK},
		{"values too fine", 0, 1, api.Span{}, api.ErrLimit},
	} {
		if s, e := piecewise.Range(correct()[x.name], x.from, x.to); s != x.want || e != x.e {
			t.Error(x.name, x.from, x.to, s, e)
		}
	}
}

// want returns the value of a function that has no error at an argument of its domain, and whether it can be computed by Horner's rule.
func want(l []api.Piece, x int) (*big.Rat, bool) {
	for i, p := range l {
		if x >= p.From && (x < p.To || i == len(l)-1) {
			return horner(p, x)
		}
	}
	return nil, false
}

// horner computes a value, and whether no result on the way is too large.
func horner(p api.Piece, x int) (*big.Rat, bool) {
	bound := big.NewInt(limit)
	y, ok := new(big.Rat), true
	note := func() { ok = ok && y.Num().CmpAbs(bound) <= 0 && y.Denom().Cmp(bound) <= 0 }
	for i := len(p.Coef) - 1; i >= 0; i-- {
		y.Mul(y, big.NewRat(int64(x), 1))
		note()
		y.Add(y, big.NewRat(int64(p.Coef[i].Num), int64(p.Coef[i].Den)))
		note()
	}
	return y, ok
}

// random makes a function without an error.
func random(r *rand.Rand) []api.Piece {
	var l []api.Piece
	from := r.IntN(1 + r.IntN(300))
	size := 1 + r.IntN(40)
	den := []int{1, 2, 30, 1000, 1000000000}[r.IntN(5)]
	num := []int{3, 50, 1000000}[r.IntN(3)]
	for range 1 + r.IntN(api.MaxPieces) {
		p := piece(from, from+1+r.IntN(size))
		from = p.To
		for range r.IntN(api.MaxDegree + 2) {
			q := big.NewRat(int64(r.IntN(2*num+1)-num), int64(1+r.IntN(den)))
			p.Coef = append(p.Coef, frac(int(q.Num().Int64()), int(q.Denom().Int64())))
		}
		l = append(l, p)
	}
	// Some joints are made continuous.
	for i, p := range l[1:] {
		before, ok := horner(l[i], p.From)
		behind, _ := horner(p, p.From)
		if r.IntN(2) == 0 && ok && len(p.Coef) > 0 {
			c := p.Coef[0]
			shift := new(big.Rat).Sub(before, behind)
			shift.Add(shift, big.NewRat(int64(c.Num), int64(c.Den)))
			if shift.Num().CmpAbs(big.NewInt(1000000)) <= 0 && shift.Denom().Cmp(big.NewInt(1000000000)) <= 0 {
				p.Coef[0] = frac(int(shift.Num().Int64()), int(shift.Denom().Int64()))
			}
		}
	}
	return l
}

// functions are the named ones that are short enough, and random ones.
func functions(seed uint64) [][]api.Piece {
	r := rand.New(rand.NewPCG(12, seed))
	l := [][]api.Piece{example(43), example(44), example(20), fine(), correct()["a parabola"], correct()["a cubic"], correct()["below 0"], correct()["zero coefficients"]}
	for range 3000 {
		l = append(l, random(r))
	}
	return l
}

// wantFigures returns whether values can be computed at all arguments between two of them, whether none is less than the one before, and the floor of the least and the ceiling of the greatest one.
func wantFigures(l []api.Piece, from, to int) (ok, increasing bool, s api.Span) {
	var least, greatest, before *big.Rat
	ok, increasing = true, true
	for x := from; x <= to; x++ {
		y, can := want(l, x)
		ok = ok && can
		increasing = increasing && (before == nil || y.Cmp(before) >= 0)
		before = y
		if least == nil || y.Cmp(least) < 0 {
			least = y
		}
		if greatest == nil || y.Cmp(greatest) > 0 {
			greatest = y
		}
	}
	if ok {
		s.Lo = floor(least)
		s.Hi = -floor(new(big.Rat).Neg(greatest))
	}
	return ok, increasing, s
}

// floor rounds downwards: with a denominator above 0, the division of big.Int that leaves no rest below 0 does.
func floor(y *big.Rat) int {
	return int(new(big.Int).Div(y.Num(), y.Denom()).Int64())
}

func errorOf(ok bool) int {
	if ok {
		return api.OK
	}
	return api.ErrLimit
}

func TestP12_1_Definitions(t *testing.T) {
	r := rand.New(rand.NewPCG(12, 12))
	var limits, all, rising int
	for _, l := range functions(1) {
		if e := piecewise.Check(l); e != api.OK {
			t.Fatal(l, e)
		}
		from, to := l[0].From, l[len(l)-1].To
		for x := from; x <= to; x++ {
			y, ok := want(l, x)
			got, e := piecewise.Eval(l, x)
			if e != errorOf(ok) || ok && big.NewRat(int64(got.Num), int64(got.Den)).Cmp(y) != 0 || !ok && got != (api.Frac{}) {
				t.Fatal(l, x, got, e)
			}
		}
		ok, increasing, _ := wantFigures(l, from, to)
		if yes, e := piecewise.Increasing(l); yes != (ok && increasing) || e != errorOf(ok) {
			t.Fatal(l, "Increasing", yes, e)
		}
		a := from + r.IntN(to-from+1)
		b := a + r.IntN(to-a+1)
		good, _, s := wantFigures(l, a, b)
		if got, e := piecewise.Range(l, a, b); got != s || e != errorOf(good) {
			t.Fatal(l, a, b, got, e)
		}
		all++
		if !ok {
			limits++
		}
		if ok && increasing {
			rising++
		}
	}
	if limits < all/10 || limits > all*9/10 || rising < all/100 {
		t.Error("only", all, limits, rising)
	}
}

func TestP12_1_Joints(t *testing.T) {
	var counts [3]int
	for _, l := range functions(2) {
		ok, continuous := true, true
		for i, p := range l[1:] {
			before, can := horner(l[i], p.From)
			behind, could := horner(p, p.From)
			ok = ok && can && could
			continuous = continuous && before.Cmp(behind) == 0
		}
		yes, e := piecewise.Continuous(l)
		if yes != (ok && continuous) || e != errorOf(ok) {
			t.Fatal(l, yes, e)
		}
		switch {
		case !ok:
			counts[0]++
		case continuous:
			counts[1]++
		default:
			counts[2]++
		}
	}
	if slices.Min(counts[:]) < 100 {
		t.Error("only", counts)
	}
}

// TestP12_2_Consequences finds the ranges of increasing functions, of more arguments, and of arguments on both sides of one.
func TestP12_2_Consequences(t *testing.T) {
	r := rand.New(rand.NewPCG(12, 22))
	for _, l := range functions(3) {
		from, to, _ := piecewise.Domain(l)
		a := from + r.IntN(to-from+1)
		b := a + r.IntN(to-a+1)
		c := b + r.IntN(to-b+1)
		first, e := piecewise.Range(l, a, b)
		second, f := piecewise.Range(l, b, c)
		both, g := piecewise.Range(l, a, c)
		if (g == api.OK) != (e == api.OK && f == api.OK) {
			t.Fatal(l, a, b, c, e, f, g)
		}
		if g == api.OK && both != (api.Span{Lo: min(first.Lo, second.Lo), Hi: max(first.Hi, second.Hi)}) {
			t.Fatal(l, a, b, c, first, second, both)
		}
		if yes, _ := piecewise.Increasing(l); !yes {
			continue
		}
		low, _ := piecewise.Range(l, a, a)
		high, _ := piecewise.Range(l, c, c)
		if both != (api.Span{Lo: low.Lo, Hi: high.Hi}) {
			t.Fatal(l, a, c, low, high, both)
		}
	}
}

func TestP12_2_Constant(t *testing.T) {
	r := rand.New(rand.NewPCG(12, 23))
	for range 1000 {
		c := frac(r.IntN(2000)-1000, 1)
		from := r.IntN(2000)
		l := []api.Piece{piece(from, from+1+r.IntN(999), c)}
		_, to, _ := piecewise.Domain(l)
		for _, x := range []int{from, (from + to) / 2, to} {
			if y, e := piecewise.Eval(l, x); y != c || e != api.OK {
				t.Fatal(l, x, y, e)
			}
		}
		if s, e := piecewise.Range(l, from, to); s != (api.Span{Lo: c.Num, Hi: c.Num}) || e != api.OK {
			t.Fatal(l, s, e)
		}
		yes, e := piecewise.Increasing(l)
		also, f := piecewise.Continuous(l)
		if !yes || !also || e != api.OK || f != api.OK {
			t.Fatal(l, yes, also, e, f)
		}
	}
}
