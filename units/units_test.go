package units_test

import (
	"math/big"
	"math/rand/v2"
	"strconv"
	"strings"
	"testing"

	"coupe/api"
	"coupe/fraction"
	"coupe/units"
)

const (
	least   = -1 << 63
	most    = 1<<63 - 1
	limit   = 1000000000000000
	lastDay = 100000
)

// kinds are the kinds of numbers, as the table of the document gives them.
var kinds = []struct {
	kind     int
	unit     string
	decimals int
}{
	{api.KindLength, "m", 1},
	{api.KindDiameter, "cm", 1},
	{api.KindVolume, "m3", 3},
	{api.KindMass, "t", 3},
	{api.KindMoney, "kr", 2},
}

// noKinds are numbers that no kind has.
var noKinds = []int{least, -1, 0, 6, 7, 100, most}

// invalid are fractions that are not valid, with their errors.
var invalid = []struct {
	f api.Frac
	e int
}{
	{api.Frac{}, api.ErrForm},
	{api.Frac{Num: 1, Den: -2}, api.ErrForm},
	{api.Frac{Num: -2, Den: 4}, api.ErrForm},
	{api.Frac{Num: limit + 1, Den: 1}, api.ErrLimit},
	{api.Frac{Num: -1, Den: limit + 1}, api.ErrLimit},
	{api.Frac{Num: least, Den: most}, api.ErrLimit},
}

var ways = []int{api.RoundDown, api.RoundUp, api.RoundHalfUp, api.RoundEven}

// numbers are numbers within the limits: small ones, those about powers of 10, and others of all sizes.
func numbers() []int {
	var l []int
	for n := range 1200 {
		l = append(l, n)
	}
	for power := 10000; power <= limit; power *= 10 {
		l = append(l, power-1, power, power/2+1)
	}
	r := rand.New(rand.NewPCG(4, 4))
	for i := range 100 {
		l = append(l, r.IntN(limit)>>(i%50))
	}
	for _, n := range l {
		l = append(l, -n)
	}
	return l
}

// TestP1_AnyArguments calls all functions with arguments of any form: none panics, and beside an error there is nothing else.
func TestP1_AnyArguments(t *testing.T) {
	nums := []int{least, least + 1, -limit - 1, -limit, -3, -1, 0, 1, 2, 3, 4, 5, 6, 365, 2000000, limit, limit + 1, most}
	texts := []string{"", "-", " ", ".", "-.", "1", "1 ", "1 m", "-1.5 m", "0-001", "\x00", "\xff m", "é m", "٣ m", strings.Repeat("9", 62) + " m", strings.Repeat("9", 100000), strings.Repeat("-", 65)}
	for _, a := range nums {
		name, e := units.Name(a)
		beside(t, "Name", name != "", e)
		decimals, e := units.Decimals(a)
		beside(t, "Decimals", decimals != 0, e)
		hectares, e := units.Hectares(a)
		beside(t, "Hectares", hectares != (api.Frac{}), e)
		weekday, e := units.Weekday(a)
		beside(t, "Weekday", weekday != 0, e)
		date, e := units.Date(a)
		beside(t, "Date", date != "", e)
		for _, b := range nums {
			text, e := units.Format(a, b)
			beside(t, "Format", text != "", e)
			f, e := units.PerHectare(a, b)
			beside(t, "PerHectare", f != (api.Frac{}), e)
			for _, c := range nums {
				n, e := units.Round(api.Frac{Num: a, Den: b}, c)
				beside(t, "Round", n != 0, e)
			}
		}
		for _, text := range texts {
			n, e := units.Parse(a, text)
			beside(t, "Parse", n != 0, e)
		}
	}
	for _, text := range texts {
		n, e := units.ParseDate(text)
		beside(t, "ParseDate", n != 0, e)
	}
}

func beside(t *testing.T, name string, something bool, e int) {
	t.Helper()
	if something && e != api.OK {
		t.Error(name, "has a result beside the error", e)
	}
}

func TestP4_1_NameAndDecimals(t *testing.T) {
	for _, k := range kinds {
		if name, e := units.Name(k.kind); name != k.unit || e != api.OK {
			t.Error(k, name, e)
		}
		if n, e := units.Decimals(k.kind); n != k.decimals || e != api.OK {
			t.Error(k, n, e)
		}
	}
	for _, kind := range noKinds {
		if name, e := units.Name(kind); name != "" || e != api.ErrArg {
			t.Error(kind, name, e)
		}
		if n, e := units.Decimals(kind); n != 0 || e != api.ErrArg {
			t.Error(kind, n, e)
		}
	}
}

func TestP4_1_FormatExamples(t *testing.T) {
	for _, x := range []struct {
		kind, n int
		text    string
		e       int
	}{
		{api.KindLength, 125, "12.5 m", api.OK},
		{api.KindLength, -5, "-0.5 m", api.OK},
		{api.KindLength, -10, "-1.0 m", api.OK},
		{api.KindDiameter, 0, "0.0 cm", api.OK},
		{api.KindDiameter, 9, "0.9 cm", api.OK},
		{api.KindDiameter, 1000, "100.0 cm", api.OK},
		{api.KindVolume, 1250, "1.250 m3", api.OK},
		{api.KindVolume, 1, "0.001 m3", api.OK},
		{api.KindVolume, -10, "-0.010 m3", api.OK},
		{api.KindMass, 999, "0.999 t", api.OK},
		{api.KindMass, -1000, "-1.000 t", api.OK},
		{api.KindMoney, 0, "0.00 kr", api.OK},
		{api.KindMoney, -7, "-0.07 kr", api.OK},
		{api.KindMoney, 123456, "1234.56 kr", api.OK},
		{api.KindLength, limit, "100000000000000.0 m", api.OK},
		{api.KindMoney, -limit, "-10000000000000.00 kr", api.OK},
		{api.KindMass, limit + 1, "", api.ErrLimit},
		{api.KindMass, -limit - 1, "", api.ErrLimit},
		{api.KindVolume, least, "", api.ErrLimit},
		{api.KindVolume, most, "", api.ErrLimit},
	} {
		if text, e := units.Format(x.kind, x.n); text != x.text || e != x.e {
			t.Error(x, text, e)
		}
	}
	for _, kind := range noKinds {
		for _, n := range []int{0, -5, limit + 1, least} {
			if text, e := units.Format(kind, n); text != "" || e != api.ErrArg {
				t.Error(kind, n, text, e)
			}
		}
	}
}

// TestP4_1_Format writes the numbers another way: as decimals of quotients.
func TestP4_1_Format(t *testing.T) {
	for _, k := range kinds {
		power := new(big.Int).Exp(big.NewInt(10), big.NewInt(int64(k.decimals)), nil)
		for _, n := range numbers() {
			want := new(big.Rat).SetFrac(big.NewInt(int64(n)), power).FloatString(k.decimals) + " " + k.unit
			if text, e := units.Format(k.kind, n); text != want || e != api.OK {
				t.Error(k, n, text, e)
			}
		}
	}
}

func TestP4_2_Parse(t *testing.T) {
	for _, x := range []struct {
		kind int
		text string
		n    int
	}{
		{api.KindVolume, "1.25 m3", 1250},
		{api.KindVolume, "1.2 m3", 1200},
		{api.KindVolume, "1.250 m3", 1250},
		{api.KindVolume, "7 m3", 7000},
		{api.KindVolume, "-7 m3", -7000},
		{api.KindVolume, "0 m3", 0},
		{api.KindVolume, "0.0 m3", 0},
		{api.KindVolume, "0.000 m3", 0},
		{api.KindVolume, "-0.001 m3", -1},
		{api.KindVolume, "0.01 m3", 10},
		{api.KindLength, "12.5 m", 125},
		{api.KindLength, "-0.5 m", -5},
		{api.KindLength, "120 m", 1200},
		{api.KindDiameter, "30.0 cm", 300},
		{api.KindMass, "10.5 t", 10500},
		{api.KindMoney, "3.5 kr", 350},
		{api.KindMoney, "-12.34 kr", -1234},
		{api.KindLength, "100000000000000 m", limit},
		{api.KindLength, "-100000000000000.0 m", -limit},
		{api.KindMoney, "9999999999999.99 kr", limit - 1},
		{api.KindVolume, "1000000000000 m3", limit},
	} {
		if n, e := units.Parse(x.kind, x.text); n != x.n || e != api.OK {
			t.Error(x, n, e)
		}
	}
}

func TestP4_2_ParseSyntax(t *testing.T) {
	for _, x := range []struct {
		kind  int
		texts []string
	}{
		{api.KindVolume, []string{
			"007 m3", "00 m3", "00.5 m3", "-01 m3", "1.2500 m3", "1. m3", "-1. m3", ".5 m3", "-.5 m3", "1.2.3 m3", "1,5 m3", ". m3", "-0 m3", "-0.0 m3", "-0.000 m3",
			"1 m", "1 m33", "1 M3", "1 cm", "1 t", "1 kr", "1", "1 ", "1m3", "m3", " m3", "- m3", "-", "", " ", "1  m3", " 1 m3", "1 m3 ", "1\tm3", "1 m3\n", "1 m 3",
			"+1 m3", "--1 m3", "- 1 m3", "1- m3", "1.-5 m3", "1.+5 m3", "-1.5- m3", "1e3 m3", "0x1 m3", "1_000 m3", "a m3", "1.a m3", "1.5a m3", "\x001 m3", "\xff m3", "٣ m3", "1\u00a0m3", ": m3", "/ m3",
		}},
		{api.KindLength, []string{"1.25 m", "1.00 m", "1 m3", "1 cm", "1. m", "-0 m", "-0.0 m", "01.5 m"}},
		{api.KindDiameter, []string{"1.25 cm", "1 m", "1 c", "1 cmm"}},
		{api.KindMass, []string{"1.0000 t", "1 T", "1 kg"}},
		{api.KindMoney, []string{"1.000 kr", "1 k", "1 Kr", "-0.00 kr"}},
	} {
		for _, text := range x.texts {
			if n, e := units.Parse(x.kind, text); n != 0 || e != api.ErrSyntax {
				t.Error(x.kind, strconv.Quote(text), n, e)
			}
		}
	}
}

func TestP4_2_ParseLimits(t *testing.T) {
	nines := func(n int) string { return strings.Repeat("9", n) }
	for i, x := range []struct {
		kind int
		text string
		e    int
	}{
		{api.KindLength, "100000000000000.1 m", api.ErrLimit},
		{api.KindLength, "-100000000000000.1 m", api.ErrLimit},
		{api.KindLength, "1000000000000000 m", api.ErrLimit},
		{api.KindVolume, "1000000000001 m3", api.ErrLimit},
		{api.KindVolume, "-1000000000000.001 m3", api.ErrLimit},
		{api.KindMoney, "92233720368547758.08 kr", api.ErrLimit},
		{api.KindMoney, "184467440737095516.16 kr", api.ErrLimit},
		{api.KindLength, nines(62) + " m", api.ErrLimit},
		{api.KindVolume, "-" + nines(60) + " m3", api.ErrLimit},
		// Texts of 64 bytes are read, longer ones are not, whatever they contain.
		{api.KindLength, nines(62) + "  ", api.ErrSyntax},
		{api.KindLength, strings.Repeat("0", 62) + " m", api.ErrSyntax},
		{api.KindLength, nines(63) + " m", api.ErrLimit},
		{api.KindLength, strings.Repeat(" ", 64), api.ErrSyntax},
		{api.KindLength, strings.Repeat(" ", 65), api.ErrLimit},
		{api.KindLength, strings.Repeat("0", 63) + " m", api.ErrLimit},
		{api.KindLength, strings.Repeat("é", 33), api.ErrLimit},
		// What is not in the language is so also if the number would be too large.
		{api.KindLength, nines(40) + " cm", api.ErrSyntax},
		{api.KindLength, nines(40) + ".25 m", api.ErrSyntax},
		{api.KindLength, nines(40) + "x m", api.ErrSyntax},
		{api.KindLength, "0" + nines(40) + " m", api.ErrSyntax},
	} {
		if n, e := units.Parse(x.kind, x.text); n != 0 || e != x.e {
			t.Error(i, n, e)
		}
	}
	for _, kind := range noKinds {
		for _, text := range []string{"", "1 m", "x", nines(63) + " m"} {
			if n, e := units.Parse(kind, text); n != 0 || e != api.ErrArg {
				t.Error(kind, text, n, e)
			}
		}
	}
}

// TestP4_2_FewerDecimals takes zeros at the end of the texts away, and the point with the last of them.
func TestP4_2_FewerDecimals(t *testing.T) {
	for _, k := range kinds {
		for _, n := range numbers() {
			text, _ := units.Format(k.kind, n)
			digits := strings.TrimSuffix(text, " "+k.unit)
			for strings.HasSuffix(digits, "0") && strings.Contains(digits, ".") {
				digits = strings.TrimSuffix(strings.TrimSuffix(digits, "0"), ".")
				if back, e := units.Parse(k.kind, digits+" "+k.unit); back != n || e != api.OK {
					t.Error(k, digits, back, e)
				}
			}
		}
	}
}

func TestP4_3_Round(t *testing.T) {
	for _, x := range []struct {
		f                      api.Frac
		down, up, halfUp, even int
	}{
		{api.Frac{Num: 5, Den: 2}, 2, 3, 3, 2},
		{api.Frac{Num: -5, Den: 2}, -3, -2, -2, -2},
		{api.Frac{Num: 7, Den: 2}, 3, 4, 4, 4},
		{api.Frac{Num: -7, Den: 2}, -4, -3, -3, -4},
		{api.Frac{Num: 1, Den: 2}, 0, 1, 1, 0},
		{api.Frac{Num: -1, Den: 2}, -1, 0, 0, 0},
		{api.Frac{Num: 3, Den: 2}, 1, 2, 2, 2},
		{api.Frac{Num: -3, Den: 2}, -2, -1, -1, -2},
		{api.Frac{Num: 0, Den: 1}, 0, 0, 0, 0},
		{api.Frac{Num: -4, Den: 1}, -4, -4, -4, -4},
		{api.Frac{Num: 3, Den: 1}, 3, 3, 3, 3},
		{api.Frac{Num: 1, Den: 3}, 0, 1, 0, 0},
		{api.Frac{Num: 2, Den: 3}, 0, 1, 1, 1},
		{api.Frac{Num: -1, Den: 3}, -1, 0, 0, 0},
		{api.Frac{Num: -2, Den: 3}, -1, 0, -1, -1},
		{api.Frac{Num: 5, Den: 3}, 1, 2, 2, 2},
		{api.Frac{Num: 4, Den: 3}, 1, 2, 1, 1},
		{api.Frac{Num: limit - 1, Den: 2}, limit/2 - 1, limit / 2, limit / 2, limit / 2},
		{api.Frac{Num: 1 - limit, Den: 2}, -limit / 2, 1 - limit/2, 1 - limit/2, -limit / 2},
		{api.Frac{Num: limit, Den: 1}, limit, limit, limit, limit},
		{api.Frac{Num: -limit, Den: 1}, -limit, -limit, -limit, -limit},
		{api.Frac{Num: 1, Den: limit}, 0, 1, 0, 0},
		{api.Frac{Num: -1, Den: limit}, -1, 0, 0, 0},
		{api.Frac{Num: limit - 1, Den: limit}, 0, 1, 1, 1},
		{api.Frac{Num: limit / 2, Den: limit - 1}, 0, 1, 1, 1},
		{api.Frac{Num: limit/2 - 1, Den: limit - 1}, 0, 1, 0, 0},
	} {
		for i, want := range []int{x.down, x.up, x.halfUp, x.even} {
			if n, e := units.Round(x.f, ways[i]); n != want || e != api.OK {
				t.Error(x.f, ways[i], n, e)
			}
		}
	}
}

func TestP4_3_RoundErrors(t *testing.T) {
	noWays := []int{least, -1, 0, 5, 6, most}
	for _, way := range noWays {
		for _, f := range []api.Frac{{Num: 0, Den: 1}, {Num: 5, Den: 2}, {Num: -limit, Den: 1}} {
			if n, e := units.Round(f, way); n != 0 || e != api.ErrArg {
				t.Error(f, way, n, e)
			}
		}
	}
	// The fraction is checked before the way.
	for _, x := range invalid {
		for _, way := range append(noWays, ways...) {
			if n, e := units.Round(x.f, way); n != 0 || e != x.e {
				t.Error(x.f, way, n, e)
			}
		}
	}
}

func TestP4_4_Hectares(t *testing.T) {
	for _, x := range []struct {
		area2 int
		f     api.Frac
		e     int
	}{
		{3000000, api.Frac{Num: 3, Den: 2}, api.OK},
		{2000000, api.Frac{Num: 1, Den: 1}, api.OK},
		{0, api.Frac{Num: 0, Den: 1}, api.OK},
		{1, api.Frac{Num: 1, Den: 2000000}, api.OK},
		{16, api.Frac{Num: 1, Den: 125000}, api.OK},
		{limit, api.Frac{Num: 500000000, Den: 1}, api.OK},
		{limit - 1, api.Frac{Num: limit - 1, Den: 2000000}, api.OK},
		{limit + 1, api.Frac{}, api.ErrLimit},
		// In lowest terms this would be small.
		{2 * limit, api.Frac{}, api.ErrLimit},
		{most, api.Frac{}, api.ErrLimit},
		{-1, api.Frac{}, api.ErrRange},
		{-limit - 1, api.Frac{}, api.ErrRange},
		{least, api.Frac{}, api.ErrRange},
	} {
		if f, e := units.Hectares(x.area2); f != x.f || e != x.e {
			t.Error(x, f, e)
		}
	}
}

func TestP4_4_PerHectare(t *testing.T) {
	for _, x := range []struct {
		n, area2 int
		f        api.Frac
		e        int
	}{
		{12, 1000000, api.Frac{Num: 24, Den: 1}, api.OK},
		{-12, 1000000, api.Frac{Num: -24, Den: 1}, api.OK},
		{0, 7, api.Frac{Num: 0, Den: 1}, api.OK},
		{1, 3, api.Frac{Num: 2000000, Den: 3}, api.OK},
		{5, 3000000, api.Frac{Num: 10, Den: 3}, api.OK},
		{limit, 2000000, api.Frac{Num: limit, Den: 1}, api.OK},
		{1, limit, api.Frac{Num: 1, Den: 500000000}, api.OK},
		{least, 1 << 62, api.Frac{Num: -4000000, Den: 1}, api.OK},
		{3, 0, api.Frac{}, api.ErrZero},
		{0, 0, api.Frac{}, api.ErrZero},
		{1, -1, api.Frac{}, api.ErrRange},
		{0, least, api.Frac{}, api.ErrRange},
		{limit, 1, api.Frac{}, api.ErrLimit},
		{500000001, 1, api.Frac{}, api.ErrLimit},
		{500000000, 1, api.Frac{Num: limit, Den: 1}, api.OK},
		// The quotient exceeds the limit already, although 2000000 times it would not.
		{1, 2 * limit, api.Frac{}, api.ErrLimit},
		{limit + 1, 2000000, api.Frac{}, api.ErrLimit},
		{2 * limit, 2 * limit, api.Frac{Num: 2000000, Den: 1}, api.OK},
		{least, most, api.Frac{}, api.ErrLimit},
	} {
		if f, e := units.PerHectare(x.n, x.area2); f != x.f || e != x.e {
			t.Error(x, f, e)
		}
	}
}

func TestP4_5_WeekdayAndDate(t *testing.T) {
	for _, x := range []struct {
		day, weekday int
		date         string
	}{
		{0, 0, "0-001"}, {1, 1, "0-002"}, {6, 6, "0-007"}, {7, 0, "0-008"}, {9, 2, "0-010"}, {99, 1, "0-100"}, {364, 0, "0-365"}, {365, 1, "1-001"}, {400, 1, "1-036"},
		{3650, 3, "10-001"}, {36499, 1, "99-365"}, {36500, 2, "100-001"}, {99999, 4, "273-355"}, {lastDay, 5, "273-356"},
	} {
		if n, e := units.Weekday(x.day); n != x.weekday || e != api.OK {
			t.Error(x, n, e)
		}
		if date, e := units.Date(x.day); date != x.date || e != api.OK {
			t.Error(x, date, e)
		}
		if day, e := units.ParseDate(x.date); day != x.day || e != api.OK {
			t.Error(x, day, e)
		}
	}
	for _, day := range []int{least, -lastDay, -365, -1, lastDay + 1, most} {
		if n, e := units.Weekday(day); n != 0 || e != api.ErrRange {
			t.Error(day, n, e)
		}
		if date, e := units.Date(day); date != "" || e != api.ErrRange {
			t.Error(day, date, e)
		}
	}
}

func TestP4_5_ParseDateErrors(t *testing.T) {
	for text, want := range map[string]int{
		"": api.ErrSyntax, "-": api.ErrSyntax, "0": api.ErrSyntax, "0-": api.ErrSyntax, "-001": api.ErrSyntax, "001": api.ErrSyntax, "0001": api.ErrSyntax,
		"0-1": api.ErrSyntax, "0-01": api.ErrSyntax, "0-0001": api.ErrSyntax, "0-001-": api.ErrSyntax, "0--001": api.ErrSyntax, "-0-001": api.ErrSyntax, "--001": api.ErrSyntax, "0-0-1": api.ErrSyntax,
		"00-001": api.ErrSyntax, "01-001": api.ErrSyntax, "0000-001": api.ErrSyntax, "10000-001": api.ErrSyntax, "12345-400": api.ErrSyntax, "99999999999999999999-001": api.ErrSyntax,
		" 0-001": api.ErrSyntax, "0-001 ": api.ErrSyntax, "0 -001": api.ErrSyntax, "0- 01": api.ErrSyntax, "0-001\n": api.ErrSyntax, "0/001": api.ErrSyntax, "+0-001": api.ErrSyntax, "0-+01": api.ErrSyntax, "0--01": api.ErrSyntax,
		"a-001": api.ErrSyntax, "0-a01": api.ErrSyntax, "0-00a": api.ErrSyntax, "0-0x1": api.ErrSyntax, "1e3-001": api.ErrSyntax, "0-:01": api.ErrSyntax, "\x00-001": api.ErrSyntax, "٣-001": api.ErrSyntax, "0-٣1": api.ErrSyntax,
		"0-000": api.ErrRange, "0-366": api.ErrRange, "0-999": api.ErrRange, "5-000": api.ErrRange, "5-366": api.ErrRange, "273-357": api.ErrRange, "273-365": api.ErrRange, "274-001": api.ErrRange, "274-000": api.ErrRange, "9999-365": api.ErrRange, "9999-999": api.ErrRange, "1000-001": api.ErrRange,
	} {
		if day, e := units.ParseDate(text); day != 0 || e != want {
			t.Error(strconv.Quote(text), day, e)
		}
	}
}

func TestP4_6_TextsRestoreNumbers(t *testing.T) {
	for _, k := range kinds {
		for _, n := range numbers() {
			text, _ := units.Format(k.kind, n)
			if back, e := units.Parse(k.kind, text); back != n || e != api.OK {
				t.Error(k, n, text, back, e)
			}
		}
	}
}

func TestP4_6_Days(t *testing.T) {
	for day := range lastDay + 1 {
		date, _ := units.Date(day)
		if back, e := units.ParseDate(date); back != day || e != api.OK {
			t.Fatal(day, date, back, e)
		}
		weekday, e := units.Weekday(day)
		if next, f := units.Weekday(day + 1); f == api.OK && next != (weekday+1)%7 || e != api.OK {
			t.Fatal(day, weekday, next)
		}
	}
}

func TestP4_6_Rounding(t *testing.T) {
	for num := -60; num <= 60; num++ {
		for den := 1; den <= 12; den++ {
			f, _ := fraction.New(num, den)
			down, _ := units.Round(f, api.RoundDown)
			up, _ := units.Round(f, api.RoundUp)
			if up-down > 1 || f.Den == 1 && (down != f.Num || up != f.Num) || down*den > num || up*den < num || (down+1)*den <= num || (up-1)*den >= num {
				t.Error(f, down, up)
			}
			for _, way := range ways {
				n, e := units.Round(f, way)
				if n < down || n > up || e != api.OK {
					t.Error(f, way, n, e)
				}
				nearest := way == api.RoundHalfUp || way == api.RoundEven
				if off := 2 * (n*den - num); nearest && (off > den || off < -den) {
					t.Error(f, way, n, "is not the nearest")
				}
			}
		}
	}
}
