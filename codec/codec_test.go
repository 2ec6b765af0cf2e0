package codec_test

import (
	"bytes"
	"encoding/binary"
	"hash/crc32"
	"math/rand/v2"
	"slices"
	"strings"
	"testing"

	"coupe/api"
	"coupe/codec"
)

const (
	least = -1 << 63
	most  = 1<<63 - 1
)

func number(n int) api.Datum {
	return api.Datum{Kind: api.DatumInt, Int: n}
}

func text(s string) api.Datum {
	return api.Datum{Kind: api.DatumText, Text: s}
}

func list(l ...api.Datum) api.Datum {
	return api.Datum{Kind: api.DatumList, List: l}
}

// within puts a datum into so many lists.
func within(lists int, x api.Datum) api.Datum {
	for range lists {
		x = list(x)
	}
	return x
}

// equalData makes a list of equal data.
func equalData(count int, x api.Datum) api.Datum {
	return list(slices.Repeat([]api.Datum{x}, count)...)
}

// numbers are the ints about powers of 2, and others of all sizes.
func numbers() []int {
	l := []int{0, least, least + 1, most, most - 1}
	r := rand.New(rand.NewPCG(6, 1))
	for i := range 63 {
		power := 1 << i
		l = append(l, power, power-1, power+1, -power, -power-1, 1-power, int(r.Uint64()>>i), -int(r.Uint64()>>1>>i))
	}
	return l
}

// random makes a valid datum of a few data.
func random(r *rand.Rand, lists int) api.Datum {
	switch kind := r.IntN(5); {
	case kind < 2:
		return number(int(r.Uint64()>>r.IntN(64)) - r.IntN(3))
	case kind < 3 || lists == 7:
		b := make([]byte, r.IntN(4)*r.IntN(40))
		for i := range b {
			b[i] = byte(r.Uint32())
		}
		return text(string(b))
	}
	x := list()
	for range r.IntN(5) {
		x.List = append(x.List, random(r, lists+1))
	}
	return x
}

func samples(seed uint64) []api.Datum {
	r := rand.New(rand.NewPCG(6, seed))
	var l []api.Datum
	for len(l) < 500 {
		if x := random(r, 0); codec.Check(x) == api.OK {
			l = append(l, x)
		}
	}
	return l
}

// wantBytes encodes a datum with the variable-length ints of another library, which are the same ones.
func wantBytes(x api.Datum) []byte {
	b := []byte{byte(x.Kind)}
	switch x.Kind {
	case api.DatumInt:
		return binary.AppendVarint(b, int64(x.Int))
	case api.DatumText:
		return append(binary.AppendVarint(b, int64(len(x.Text))), x.Text...)
	}
	b = binary.AppendVarint(b, int64(len(x.List)))
	for _, element := range x.List {
		b = append(b, wantBytes(element)...)
	}
	return b
}

// equal compares two data field by field.
func equal(x, y api.Datum) bool {
	return x.Kind == y.Kind && x.Int == y.Int && x.Text == y.Text && slices.EqualFunc(x.List, y.List, equal)
}

// zero reports whether a datum is the zero value.
func zero(x api.Datum) bool {
	return x.Kind == 0 && x.Int == 0 && x.Text == "" && x.List == nil
}

// hex reads bytes that are written with two digits each.
func hex(s string) []byte {
	var b []byte
	const digits = "0123456789abcdef"
	for f := range strings.FieldsSeq(s) {
		b = append(b, byte(strings.IndexByte(digits, f[0])<<4|strings.IndexByte(digits, f[1])))
	}
	return b
}

// ring is a list that contains itself, twice.
func ring() api.Datum {
	elements := make([]api.Datum, 2)
	x := list(elements...)
	elements[0], elements[1] = x, x
	return x
}

// badData are data that are not valid, with their errors.
var badData = []struct {
	name string
	x    api.Datum
	e    int
}{
	{"the zero value", api.Datum{}, api.ErrArg},
	{"a kind above", api.Datum{Kind: 4}, api.ErrArg},
	{"a kind below", api.Datum{Kind: -1}, api.ErrArg},
	{"a kind that is 1 as a byte", api.Datum{Kind: 257, Int: 5}, api.ErrArg},
	{"the greatest kind", api.Datum{Kind: most}, api.ErrArg},
	{"the least kind", api.Datum{Kind: least}, api.ErrArg},
	{"the kind before the fields", api.Datum{Kind: 4, Int: 1, Text: "a"}, api.ErrArg},
	{"an int with a text", api.Datum{Kind: api.DatumInt, Text: "a"}, api.ErrForm},
	{"an int with a list", api.Datum{Kind: api.DatumInt, List: []api.Datum{number(1)}}, api.ErrForm},
	{"a text with an int", api.Datum{Kind: api.DatumText, Int: -1}, api.ErrForm},
	{"a text with a list", api.Datum{Kind: api.DatumText, List: []api.Datum{{}}}, api.ErrForm},
	{"a list with an int", api.Datum{Kind: api.DatumList, Int: 2}, api.ErrForm},
	{"a list with a text", api.Datum{Kind: api.DatumList, Text: "a"}, api.ErrForm},
	{"the outside before the inside", api.Datum{Kind: api.DatumList, Int: 2, List: []api.Datum{{}}}, api.ErrForm},
	{"an element", list(number(1), api.Datum{}), api.ErrArg},
	{"the first of two elements", list(text(""), api.Datum{Kind: api.DatumInt, Text: "a"}, api.Datum{}), api.ErrForm},
	{"an element of an element before the next one", list(list(api.Datum{}), api.Datum{Kind: api.DatumInt, Text: "a"}), api.ErrArg},
	{"in 8 lists", within(8, number(1)), api.ErrLimit},
	{"8 lists around nothing", within(8, list()), api.ErrLimit},
	{"in 8 lists, but no datum", within(8, api.Datum{}), api.ErrArg},
	{"in 8 lists, but malformed", within(8, api.Datum{Kind: api.DatumInt, Text: "a"}), api.ErrForm},
	{"behind the 8th list", list(within(8, number(1)), api.Datum{}), api.ErrLimit},
	{"501 data", equalData(500, number(0)), api.ErrLimit},
	{"501 data in lists", list(equalData(250, number(0)), equalData(248, number(0))), api.ErrLimit},
	{"the 501st is no datum", list(equalData(498, number(0)), api.Datum{}), api.ErrArg},
	{"behind the 501st", list(equalData(498, number(0)), number(0), api.Datum{}), api.ErrLimit},
	{"a text of 3998 bytes", text(strings.Repeat("a", 3998)), api.ErrLimit},
	{"a text of 3996 bytes in a list", list(text(strings.Repeat("a", 3996))), api.ErrLimit},
	{"long ints", equalData(400, number(most)), api.ErrLimit},
	{"a text of a million bytes", text(strings.Repeat("a", 1000000)), api.ErrLimit},
	{"the length is the last error", list(text(strings.Repeat("a", 5000)), api.Datum{}), api.ErrArg},
}

// longest are valid data that are as large as they may be.
func longest() []api.Datum {
	return []api.Datum{
		text(strings.Repeat("a", 3997)),
		list(text(strings.Repeat("a", 3995))),
		equalData(499, number(0)),
		list(equalData(250, number(0)), equalData(247, number(0))),
		within(7, number(1)),
		within(7, list()),
		equalData(9, within(6, number(least))),
		api.Datum{Kind: api.DatumInt, List: []api.Datum{}},
		list(slices.Repeat([]api.Datum{number(most)}, 333)...),
	}
}

// TestP1_AnyArguments calls all functions with arguments of any form: none panics, and beside an error there is nothing else.
func TestP1_AnyArguments(t *testing.T) {
	r := rand.New(rand.NewPCG(6, 2))
	offsets := []int{least, -1, 0, 1, 2, 9, 10, 11, 30, 31, most}
	for range 20000 {
		b := make([]byte, r.IntN(30))
		for i := range b {
			b[i] = byte([]uint32{r.Uint32() % 4, r.Uint32() % 8, 0x80, 0xff, r.Uint32()}[r.IntN(5)])
		}
		for _, at := range offsets {
			n, next, e := codec.GetInt(b, at)
			if e != api.OK && (n != 0 || next != 0) || e == api.OK && (next <= at || next > len(b)) {
				t.Fatal("GetInt", b, at, n, next, e)
			}
			s, next, e := codec.GetText(b, at)
			if e != api.OK && (s != "" || next != 0) || e == api.OK && (next <= at || next > len(b)) {
				t.Fatal("GetText", b, at, s, next, e)
			}
		}
		if x, e := codec.Decode(b); e != api.OK && !zero(x) || e == api.OK && codec.Check(x) != api.OK {
			t.Fatal("Decode", b, x, e)
		}
	}
	for _, x := range badData {
		if b, e := codec.Encode(x.x); b != nil || e != x.e {
			t.Error("Encode", x.name, e)
		}
	}
	if e := codec.Check(ring()); e != api.ErrLimit {
		t.Error("a list that contains itself", e)
	}
	if codec.Same(ring(), ring()) {
		t.Error("a list that contains itself is equal to one")
	}
	codec.PutText("")
	codec.Sum(nil)
	codec.Update(1<<32-1, nil)
}

func TestP6_1_Ints(t *testing.T) {
	for n, want := range map[int]string{
		0: "00", -1: "01", 1: "02", -2: "03", 2: "04", 63: "7e", -64: "7f", 64: "80 01", -65: "81 01", 8191: "fe 7f", -8192: "ff 7f", 8192: "80 80 01",
		most:  "fe ff ff ff ff ff ff ff ff 01",
		least: "ff ff ff ff ff ff ff ff ff 01",
	} {
		if b := codec.PutInt(n); !bytes.Equal(b, hex(want)) {
			t.Error(n, b)
		}
	}
	for _, n := range numbers() {
		b := codec.PutInt(n)
		if !bytes.Equal(b, binary.AppendVarint(nil, int64(n))) {
			t.Error(n, b)
		}
		if back, next, e := codec.GetInt(b, 0); back != n || next != len(b) || e != api.OK {
			t.Error(n, back, next, e)
		}
		longer := slices.Concat([]byte{0xff, 0x80}, b, []byte{0, 0xff})
		if back, next, e := codec.GetInt(longer, 2); back != n || next != 2+len(b) || e != api.OK {
			t.Error("with bytes around it", n, back, next, e)
		}
		for short := range b {
			if back, next, e := codec.GetInt(b[:short], 0); back != 0 || next != 0 || e != api.ErrTorn {
				t.Error("a beginning", n, short, back, next, e)
			}
		}
	}
}

func TestP6_1_GetIntErrors(t *testing.T) {
	for _, x := range []struct {
		b  string
		at int
		e  int
	}{
		{"", -1, api.ErrRange},
		{"", 1, api.ErrRange},
		{"", least, api.ErrRange},
		{"00 00", 3, api.ErrRange},
		{"00 00", most, api.ErrRange},
		{"", 0, api.ErrTorn},
		{"00 00", 2, api.ErrTorn},
		{"80", 0, api.ErrTorn},
		{"00 ff", 1, api.ErrTorn},
		{"80 00", 0, api.ErrForm},
		{"ff 00", 0, api.ErrForm},
		{"80 80 00", 0, api.ErrForm},
		{"05 81 00 05", 1, api.ErrForm},
		{"80 80 80 80 80 80 80 80 80 00", 0, api.ErrForm},
		{"80 80 80 80 80 80 80 80 80", 0, api.ErrTorn},
		{"80 80 80 80 80 80 80 80 80 02", 0, api.ErrLimit},
		{"80 80 80 80 80 80 80 80 80 7f", 0, api.ErrLimit},
		{"80 80 80 80 80 80 80 80 80 80", 0, api.ErrLimit},
		{"80 80 80 80 80 80 80 80 80 81 00", 0, api.ErrLimit},
		{"ff ff ff ff ff ff ff ff ff ff ff", 0, api.ErrLimit},
	} {
		if n, next, e := codec.GetInt(hex(x.b), x.at); n != 0 || next != 0 || e != x.e {
			t.Error(x, n, next, e)
		}
		if s, next, e := codec.GetText(hex(x.b), x.at); s != "" || next != 0 || e != x.e {
			t.Error("as a text", x, s, next, e)
		}
	}
}

// TestP6_1_AllShort reads all bytes of a short alphabet: what is read is the only encoding of its int.
func TestP6_1_AllShort(t *testing.T) {
	alphabet := []byte{0, 1, 2, 0x7f, 0x80, 0x81, 0xff}
	for code := range 7 * 7 * 7 * 7 * 7 {
		b := make([]byte, 5)
		for i := range b {
			b[i] = alphabet[code%7]
			code /= 7
		}
		n, next, e := codec.GetInt(b, 0)
		end := slices.IndexFunc(b, func(x byte) bool { return x < 0x80 })
		want := api.OK
		if end < 0 {
			want = api.ErrTorn
		} else if end > 0 && b[end] == 0 {
			want = api.ErrForm
		}
		if e != want || e == api.OK && (next != end+1 || !bytes.Equal(codec.PutInt(n), b[:next])) {
			t.Fatal(b, n, next, e)
		}
	}
}

func TestP6_2_Texts(t *testing.T) {
	for _, s := range []string{"", "ab", "a\x00b", "\xff\xfe", "ahorn und ösp", strings.Repeat("x", 63), strings.Repeat("x", 64), strings.Repeat("y", api.MaxText)} {
		b := codec.PutText(s)
		if !bytes.Equal(b, slices.Concat(codec.PutInt(len(s)), []byte(s))) {
			t.Error(s, b)
		}
		longer := slices.Concat([]byte{9}, b, []byte("more"))
		if back, next, e := codec.GetText(longer, 1); back != s || next != 1+len(b) || e != api.OK {
			t.Error(len(s), back, next, e)
		}
		if back, next, e := codec.GetText(b, 0); back != s || next != len(b) || e != api.OK {
			t.Error(len(s), back, next, e)
		}
		for short := range b {
			if back, next, e := codec.GetText(b[:short], 0); back != "" || next != 0 || e != api.ErrTorn {
				t.Error("a beginning", len(s), short, next, e)
			}
		}
	}
	if b := codec.PutText(strings.Repeat("z", 5000)); len(b) != 5002 {
		t.Error("a text above the limit is written nevertheless", len(b))
	}
}

func TestP6_2_GetTextErrors(t *testing.T) {
	long := strings.Repeat("z", api.MaxText+1)
	for i, x := range []struct {
		b []byte
		e int
	}{
		{codec.PutInt(-1), api.ErrForm},
		{codec.PutInt(least), api.ErrForm},
		{codec.PutInt(-api.MaxText - 1), api.ErrForm},
		{codec.PutText(long), api.ErrLimit},
		// A length above the limit is found before bytes are missed.
		{codec.PutInt(api.MaxText + 1), api.ErrLimit},
		{codec.PutInt(most), api.ErrLimit},
		{codec.PutInt(api.MaxText), api.ErrTorn},
		{hex("04 61"), api.ErrTorn},
		{hex("02"), api.ErrTorn},
	} {
		if s, next, e := codec.GetText(x.b, 0); s != "" || next != 0 || e != x.e {
			t.Error(i, s, next, e)
		}
	}
}

func TestP6_3_Check(t *testing.T) {
	for _, x := range badData {
		if e := codec.Check(x.x); e != x.e {
			t.Error(x.name, e)
		}
	}
	for i, x := range longest() {
		if e := codec.Check(x); e != api.OK {
			t.Error(i, e)
		}
	}
	for i, x := range []api.Datum{number(0), number(least), number(most), text(""), text("\x00\xff"), list(), list(list(), text(""), number(-1)), {Kind: api.DatumText, Text: "a", List: []api.Datum{}}} {
		if e := codec.Check(x); e != api.OK {
			t.Error(i, e)
		}
	}
}

func TestP6_3_Same(t *testing.T) {
	l := []api.Datum{number(0), number(1), number(-1), number(most), text(""), text("a"), text("b"), text("ab"), list(), list(list()), list(number(0)), list(text("")), list(number(1), number(2)), list(number(2), number(1)), list(list(number(1)), number(2)), list(list(number(1), number(2))), list(text("ab"), text("c")), list(text("a"), text("bc"))}
	for i, x := range l {
		for j, y := range l {
			if codec.Same(x, y) != (i == j) {
				t.Error(i, j)
			}
		}
	}
	if !codec.Same(list(), api.Datum{Kind: api.DatumList, List: []api.Datum{}}) {
		t.Error("an empty list and none")
	}
	if !codec.Same(list(number(5), text("ab")), list(number(5), text("ab"))) {
		t.Error("equal lists")
	}
	for _, x := range badData {
		if codec.Same(x.x, x.x) || codec.Same(x.x, number(0)) || codec.Same(list(), x.x) {
			t.Error(x.name)
		}
	}
}

func TestP6_4_Encode(t *testing.T) {
	for want, x := range map[string]api.Datum{
		"03 04 01 0a 02 04 61 62":          list(number(5), text("ab")),
		"01 00":                            number(0),
		"01 81 01":                         number(-65),
		"02 00":                            text(""),
		"03 00":                            list(),
		"03 02 03 02 03 00":                within(2, list()),
		"03 06 03 02 01 02 01 04 02 02 63": list(list(number(1)), number(2), text("c")),
		"01 ff ff ff ff ff ff ff ff ff 01": number(least),
		"03 04 02 02 00 03 04 01 01 02 06 61 c3 a9": list(text("\x00"), list(number(-1), text("aé"))),
	} {
		if b, e := codec.Encode(x); !bytes.Equal(b, hex(want)) || e != api.OK {
			t.Error(want, b, e)
		}
		if back, e := codec.Decode(hex(want)); !equal(back, x) || e != api.OK {
			t.Error(want, back, e)
		}
	}
	for _, x := range slices.Concat(samples(3), longest()) {
		b, e := codec.Encode(x)
		if !bytes.Equal(b, wantBytes(x)) || e != api.OK {
			t.Error(x, b, e)
		}
		if back, e := codec.Decode(b); !equal(back, x) || e != api.OK {
			t.Error(x, back, e)
		}
	}
	for _, x := range badData {
		if b, e := codec.Encode(x.x); b != nil || e != x.e {
			t.Error(x.name, len(b), e)
		}
	}
}

func TestP6_4_DecodeErrors(t *testing.T) {
	zeros := func(count int) []byte { return bytes.Repeat(hex("01 00"), count) }
	around := func(lists int, b []byte) []byte { return append(bytes.Repeat(hex("03 02"), lists), b...) }
	for _, x := range []struct {
		name string
		b    []byte
		e    int
	}{
		{"no bytes", nil, api.ErrTorn},
		{"kind 0", hex("00 00"), api.ErrArg},
		{"kind 4", hex("04"), api.ErrArg},
		{"kind 255", hex("ff 00"), api.ErrArg},
		{"an int without bytes", hex("01"), api.ErrTorn},
		{"an int that ends", hex("01 80"), api.ErrTorn},
		{"an int with too many bytes", hex("01 80 00"), api.ErrForm},
		{"an int that is too large", hex("01 ff ff ff ff ff ff ff ff ff 02"), api.ErrLimit},
		{"a text without a length", hex("02"), api.ErrTorn},
		{"a text with a length below 0", hex("02 01"), api.ErrForm},
		{"a text that ends", hex("02 04 61"), api.ErrTorn},
		{"a text with a length above the limit", append(hex("02"), codec.PutInt(api.MaxText+1)...), api.ErrLimit},
		{"a text as long as the limit", append(hex("02"), codec.PutInt(api.MaxText)...), api.ErrTorn},
		{"a length with too many bytes", hex("02 80 00"), api.ErrForm},
		{"a list without a number", hex("03"), api.ErrTorn},
		{"a list of -1 elements", hex("03 01"), api.ErrForm},
		{"a list of the least number of elements", append(hex("03"), codec.PutInt(least)...), api.ErrForm},
		{"a list of the greatest number of elements", append(hex("03"), codec.PutInt(most)...), api.ErrTorn},
		{"a number with too many bytes", hex("03 80 00"), api.ErrForm},
		{"a number that is too large", hex("03 80 80 80 80 80 80 80 80 80 02"), api.ErrLimit},
		{"an element that is missing", hex("03 04 01 0a"), api.ErrTorn},
		{"an element of no kind", hex("03 04 01 0a 05"), api.ErrArg},
		{"bytes are left", hex("01 00 00"), api.ErrForm},
		{"data are left", hex("03 02 01 00 01 00"), api.ErrForm},
		{"bytes are left behind a text", hex("02 02 61 62"), api.ErrForm},
		{"an error before bytes that are left", hex("03 02 07 01 00"), api.ErrArg},
		{"the first of two errors", hex("03 04 02 01 07"), api.ErrForm},
		{"in 8 lists", around(8, zeros(1)), api.ErrLimit},
		{"in 8 lists without the int", around(8, hex("01")), api.ErrLimit},
		{"in 8 lists and of no kind", around(8, hex("00")), api.ErrArg},
		{"in 8 lists and missing", around(8, nil), api.ErrTorn},
		{"8 lists around nothing", around(8, hex("03 00")), api.ErrLimit},
		{"501 data", slices.Concat(hex("03"), codec.PutInt(500), zeros(500)), api.ErrLimit},
		{"501 data, the last one malformed", slices.Concat(hex("03"), codec.PutInt(500), zeros(499), hex("01 80 00")), api.ErrLimit},
		{"501 data, the last one of no kind", slices.Concat(hex("03"), codec.PutInt(500), zeros(499), hex("00")), api.ErrArg},
		{"501 data, the last one missing", slices.Concat(hex("03"), codec.PutInt(500), zeros(499)), api.ErrTorn},
		{"501 data in lists", slices.Concat(hex("03 04 03"), codec.PutInt(250), zeros(250), hex("03"), codec.PutInt(248), zeros(248)), api.ErrLimit},
		{"more data than there may be, but not so many", slices.Concat(hex("03"), codec.PutInt(most), zeros(600)), api.ErrLimit},
		{"4001 bytes", slices.Concat(hex("02"), codec.PutInt(3998), make([]byte, 3998)), api.ErrLimit},
		{"4001 bytes of no kind", make([]byte, api.MaxText+1), api.ErrLimit},
		{"4000 bytes of no kind", make([]byte, api.MaxText), api.ErrArg},
		{"4000 bytes, one too many", append(wantBytes(text(strings.Repeat("a", 3996))), 0), api.ErrForm},
	} {
		if d, e := codec.Decode(x.b); !zero(d) || e != x.e {
			t.Error(x.name, d, e)
		}
	}
}

func TestP6_5_Sum(t *testing.T) {
	if s := codec.Sum([]byte("123456789")); s != 0xcbf43926 {
		t.Error(s)
	}
	if s := codec.Sum(nil); s != 0 {
		t.Error(s)
	}
	r := rand.New(rand.NewPCG(6, 5))
	for size := range 300 {
		b := make([]byte, size)
		for i := range b {
			b[i] = byte(r.Uint32())
		}
		if codec.Sum(b) != crc32.ChecksumIEEE(b) {
			t.Error(b)
		}
		cut := r.IntN(size + 1)
		if codec.Update(codec.Sum(b[:cut]), b[cut:]) != codec.Sum(b) {
			t.Error(cut, b)
		}
		if codec.Update(codec.Sum(b), nil) != codec.Sum(b) || codec.Update(0, b) != codec.Sum(b) {
			t.Error(b)
		}
		s := r.Uint32()
		if codec.Update(s, b) != crc32.Update(s, crc32.IEEETable, b) {
			t.Error(s, b)
		}
	}
	for x := range 256 {
		if b := []byte{byte(x)}; codec.Sum(b) != crc32.ChecksumIEEE(b) {
			t.Error(b)
		}
	}
}

// TestP6_6_Memory changes arguments and results, and finds that others do not change with them.
func TestP6_6_Memory(t *testing.T) {
	x := list(number(1), list(number(2), text("ab")))
	b, _ := codec.Encode(x)
	full := append(slices.Clone(b), 7, 7, 7)[:len(b)]
	kept := slices.Clone(full[:cap(full)])
	first, _ := codec.Decode(full)
	second, _ := codec.Decode(full)
	s, _, _ := codec.GetText(full, 9)
	codec.GetInt(full, 3)
	codec.Sum(full)
	codec.Update(5, full)
	if !bytes.Equal(full[:cap(full)], kept) {
		t.Error("bytes were changed")
	}
	clear(full)
	first.List[1].List[0] = number(9)
	first.List[0] = text("z")
	_ = append(first.List[1].List[:1], number(9))
	if s != "ab" || !equal(second, x) || !equal(x, list(number(1), list(number(2), text("ab")))) {
		t.Error(s, second, x)
	}
	again, _ := codec.Encode(x)
	clear(b)
	if !bytes.Equal(again, wantBytes(x)) {
		t.Error(again)
	}
	one := codec.PutInt(5)
	clear(one[:cap(one)])
	one = codec.PutText("a")
	clear(one[:cap(one)])
	if !bytes.Equal(codec.PutInt(5), hex("0a")) || !bytes.Equal(codec.PutText("a"), hex("02 61")) {
		t.Error("results share memory")
	}
}

func TestP6_6_ListsAreKept(t *testing.T) {
	elements := make([]api.Datum, 2, 4)
	elements[0], elements[1] = number(1), text("a")
	x := list(elements...)
	x.List = elements
	codec.Check(x)
	codec.Same(x, x)
	codec.Encode(x)
	if !equal(elements[0], number(1)) || !equal(elements[1], text("a")) || !zero(elements[:4][2]) || !zero(elements[:4][3]) {
		t.Error(elements[:4])
	}
}

// TestP6_7_Restored decodes encodings, their beginnings, and encodings with one byte changed.
func TestP6_7_Restored(t *testing.T) {
	for _, x := range samples(7) {
		b, _ := codec.Encode(x)
		if back, e := codec.Decode(b); !codec.Same(back, x) || e != api.OK {
			t.Fatal(x, back, e)
		}
		for short := range b {
			if back, e := codec.Decode(b[:short]); !zero(back) || e == api.OK {
				t.Fatal(x, short, back)
			}
		}
		for i := range min(len(b), 12) {
			for _, flip := range []byte{1, 2, 3, 0x80, 0xff} {
				changed := slices.Clone(b)
				changed[i] ^= flip
				back, e := codec.Decode(changed)
				again, _ := codec.Encode(back)
				if e == api.OK && (!bytes.Equal(again, changed) || codec.Same(back, x)) {
					t.Fatal(x, changed, back)
				}
			}
		}
	}
}

// TestP6_7_AllShort decodes all bytes of a short alphabet: what is accepted is the encoding of its result.
func TestP6_7_AllShort(t *testing.T) {
	alphabet := []byte{0, 1, 2, 3, 4, 6, 0x80, 0x81}
	accepted := 0
	for size := range 7 {
		for code := range 1 << (3 * size) {
			b := make([]byte, size)
			for i := range b {
				b[i] = alphabet[code>>(3*i)&7]
			}
			x, e := codec.Decode(b)
			if e != api.OK {
				continue
			}
			accepted++
			if again, e := codec.Encode(x); !bytes.Equal(again, b) || e != api.OK {
				t.Fatal(b, x, again, e)
			}
		}
	}
	if accepted < 100 {
		t.Error("only", accepted)
	}
}

func TestP6_7_Sums(t *testing.T) {
	r := rand.New(rand.NewPCG(6, 9))
	for range 2000 {
		size := 4 + r.IntN(40)
		var l [3][]byte
		for i := range l {
			l[i] = make([]byte, size)
			for j := range l[i] {
				l[i][j] = byte(r.Uint32())
			}
		}
		xor := make([]byte, size)
		for j := range xor {
			xor[j] = l[0][j] ^ l[1][j] ^ l[2][j]
		}
		if codec.Sum(xor) != codec.Sum(l[0])^codec.Sum(l[1])^codec.Sum(l[2]) {
			t.Fatal(l)
		}
		changed := slices.Clone(xor)
		at := r.IntN(size - 3)
		binary.LittleEndian.PutUint32(changed[at:], binary.LittleEndian.Uint32(changed[at:])^(1+r.Uint32N(1<<32-1)))
		if codec.Sum(changed) == codec.Sum(xor) {
			t.Fatal(xor, changed)
		}
	}
}
