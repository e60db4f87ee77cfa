package delta_test

import (
	"bytes"
	"math"
	"math/rand"
	"slices"
	"strings"
	"testing"

	"quaestor/api"
	"quaestor/delta"
	"quaestor/piece"
)

// long answers a series of so many bytes.
func long(n int) string { return strings.Repeat("s", n) }

// of answers a piece by a series, a time and a value.
func of(series string, at, v int64) api.Piece {
	return api.Piece{Series: series, T: at, V: v, Id: api.Id{N: 3, Node: 1}}
}

// rowOf answers so many pieces of one series.
func rowOf(series string, many int) []api.Piece {
	var l []api.Piece
	for i := range many {
		l = append(l, of(series, int64(i), 0))
	}
	return l
}

// asks asks that two lists have the same elements.
func asks[A comparable](t *testing.T, what string, got, want []A) {
	t.Helper()
	for i := range min(len(got), len(want)) {
		if got[i] != want[i] {
			t.Fatalf("%s: the element %d is %+v, want %+v", what, i, got[i], want[i])
		}
	}
	if len(got) != len(want) {
		t.Fatalf("%s: %d elements, want %d", what, len(got), len(want))
	}
}

// laidAs answers a form as it would be laid in so much room.
func laidAs(room int, form ...byte) []byte {
	b := append([]byte{byte(len(form)), byte(len(form) >> 8)}, form...)
	if room < len(b) {
		return b
	}
	return append(b, make([]byte, room-len(b))...)
}

// checks asks what Check answers, and Lay beside it.
func checks(t *testing.T, what string, l []api.Piece, want api.Errno) {
	t.Helper()
	if e := delta.Check(l); e != want {
		t.Errorf("Check of %s = %d, want %d", what, e, want)
	}
	b, e := delta.Lay(l)
	if e != want || want != api.OK && len(b) != 0 {
		t.Errorf("Lay of %s: %d bytes and %d, want %d", what, len(b), e, want)
	}
}

// refuses asks which error bytes are read as.
func refuses(t *testing.T, what string, b []byte, want api.Errno) {
	t.Helper()
	if l, e := delta.Read(b); e != want || len(l) != 0 {
		t.Errorf("Read of %s: %d pieces and %d, want %d", what, len(l), e, want)
	}
}

func TestExample(t *testing.T) {
	l := []api.Piece{of("a", 5, -1)}
	want := laidAs(43, 0x01, 0x01, 0x61, 0x01, 0x0a, 0x01, 0x03, 0x01, 0x00)
	if room := delta.Room(l); room != 43 {
		t.Errorf("the room is %d", room)
	}
	checks(t, "the example", l, api.OK)
	b, _ := delta.Lay(l)
	asks(t, "laid", b, want)
	got, e := delta.Read(want)
	if e != api.OK {
		t.Errorf("Read: %d", e)
	}
	asks(t, "read", got, l)
}

func TestNoPieces(t *testing.T) {
	for _, l := range [][]api.Piece{nil, {}} {
		if room := delta.Room(l); room != 4 {
			t.Errorf("the room of none is %d", room)
		}
		checks(t, "none", l, api.OK)
		b, _ := delta.Lay(l)
		asks(t, "laid", b, []byte{1, 0, 0, 0})
	}
	if l, e := delta.Read([]byte{1, 0, 0, 0}); e != api.OK || len(l) != 0 {
		t.Errorf("Read of none: %v, %d", l, e)
	}
}

// Differences are those of the row: its time's step is held against the step ahead, its value against the value ahead.
func TestForms(t *testing.T) {
	for _, x := range []struct {
		what string
		l    []api.Piece
		form []byte
	}{
		{"even steps", []api.Piece{of("a", 10, 5), of("a", 20, 5), of("a", 30, 7), of("a", 41, 4)},
			[]byte{1, 1, 'a', 4, 20, 10, 3, 1, 0, 0, 0, 3, 1, 0, 0, 4, 3, 1, 0, 2, 5, 3, 1, 0}},
		{"a step that gets less", []api.Piece{of("a", -10, 0), of("a", -9, 0), of("a", -8, 0)},
			[]byte{1, 1, 'a', 3, 19, 0, 3, 1, 0, 22, 0, 3, 1, 0, 0, 0, 3, 1, 0}},
		{"each row from 0", []api.Piece{of("a", 10, 5), of("a", 12, 6), of("b", 12, 6), of("ba", 12, 6)},
			[]byte{3, 1, 'a', 2, 20, 10, 3, 1, 0, 15, 2, 3, 1, 0, 1, 'b', 1, 24, 12, 3, 1, 0, 2, 'b', 'a', 1, 24, 12, 3, 1, 0}},
		{"a node's two bytes, and a great N", []api.Piece{{Series: "a", Id: api.Id{N: 300, Node: 0x1234}}},
			[]byte{1, 1, 'a', 1, 0, 0, 0xac, 0x02, 0x34, 0x12}},
		{"the greatest N and node", []api.Piece{{Series: "a", Id: api.Id{N: math.MaxUint64, Node: math.MaxUint16}}},
			[]byte{1, 1, 'a', 1, 0, 0, 0xff, 0xff, 0xff, 0xff, 0xff, 0xff, 0xff, 0xff, 0xff, 1, 0xff, 0xff}},
		{"from the least to the greatest", []api.Piece{of("a", math.MinInt64, math.MinInt64), of("a", math.MaxInt64, math.MaxInt64)},
			[]byte{1, 1, 'a', 2,
				0xff, 0xff, 0xff, 0xff, 0xff, 0xff, 0xff, 0xff, 0xff, 1, 0xff, 0xff, 0xff, 0xff, 0xff, 0xff, 0xff, 0xff, 0xff, 1, 3, 1, 0,
				0xfe, 0xff, 0xff, 0xff, 0xff, 0xff, 0xff, 0xff, 0xff, 1, 1, 3, 1, 0}}, // the step goes round to -1, which is 2^63 - 1 above the one ahead
	} {
		b, e := delta.Lay(x.l)
		if e != api.OK {
			t.Errorf("%s: %d", x.what, e)
		}
		asks(t, x.what, b, laidAs(delta.Room(x.l), x.form...))
		l, e := delta.Read(b)
		if e != api.OK {
			t.Errorf("%s: Read: %d", x.what, e)
		}
		asks(t, x.what, l, x.l)
		holds(t, x.l)
	}
}

// Rows are those that stand side by side, also of lists that may not be laid.
func TestRoom(t *testing.T) {
	for _, x := range []struct {
		l    []api.Piece
		want int
	}{
		{rowOf("a", 1), 43},
		{rowOf("a", 2), 75},
		{rowOf("", 1), 42},
		{rowOf("", 3), 106},
		{slices.Concat(rowOf("a", 2), rowOf("b", 1)), 114},
		{slices.Concat(rowOf("a", 1), rowOf("b", 1), rowOf("a", 1)), 121},
		{slices.Concat(rowOf("b", 1), rowOf("a", 2)), 114},
		{slices.Concat(rowOf("a", 1), rowOf("a", 1)), 75}, // one row, whatever the times are
		{slices.Concat(rowOf("", 1), rowOf("a", 1), rowOf("", 1)), 4 + 6 + 32 + 7 + 32 + 6 + 32},
		{rowOf(long(200), 127), 4 + 206 + 127*32},
		{rowOf("äb", 1), 45},
		{rowOf(long(1<<20), 1), 42 + 1<<20},
		{rowOf("a", 300000), 11 + 300000*32},
	} {
		if got := delta.Room(x.l); got != x.want {
			t.Errorf("Room of %d pieces = %d, want %d", len(x.l), got, x.want)
		}
	}
}

func TestCheckOfTooMany(t *testing.T) {
	checks(t, "127 pieces of a", rowOf("a", 127), api.OK)
	checks(t, "128 pieces of a", rowOf("a", 128), api.ErrLong)
	checks(t, "a room of 4096", rowOf(long(22), 127), api.OK)
	checks(t, "a room of 4097", rowOf(long(23), 127), api.ErrLong)
	checks(t, "a room of 4096 in two rows", slices.Concat(rowOf(long(8), 63), rowOf(long(7)+"t", 64)), api.OK)
	checks(t, "a room of 4097 in two rows", slices.Concat(rowOf(long(8), 63), rowOf(long(8)+"t", 64)), api.ErrLong)
	for _, n := range []int{255, 256, 257, 258, 512, 100000} {
		checks(t, "a great number of pieces", rowOf("a", n), api.ErrLong)
	}
	var rows []api.Piece
	for i := range 105 {
		rows = append(rows, of(string(rune('0'+i)), 0, 0))
	}
	checks(t, "104 rows of a piece", rows[:104], api.OK)
	checks(t, "105 rows of a piece", rows[:105], api.ErrLong)
	for _, l := range [][]api.Piece{rowOf(long(22), 127), rows[:104], slices.Concat(rowOf(long(8), 63), rowOf(long(7)+"t", 64))} {
		holds(t, l)
	}
}

// What is too long is told ahead of what may not be.
func TestCheckOrderOfErrors(t *testing.T) {
	turned := rowOf("a", 128)
	slices.Reverse(turned)
	checks(t, "128 pieces turned about", turned, api.ErrLong)
	checks(t, "127 pieces turned about", turned[:127], api.ErrArg)
	checks(t, "128 pieces of one time", slices.Repeat(rowOf("a", 1), 128), api.ErrLong)
	checks(t, "127 pieces of one time", slices.Repeat(rowOf("a", 1), 127), api.ErrArg)
	checks(t, "127 pieces of no series", rowOf("", 127), api.ErrArg)
	checks(t, "128 pieces of no series", rowOf("", 128), api.ErrLong)
	checks(t, "300 pieces of no series", rowOf("", 300), api.ErrLong)
	checks(t, "a series of 4054 bytes", rowOf(long(4054), 1), api.ErrArg)
	checks(t, "a series of 4055 bytes", rowOf(long(4055), 1), api.ErrLong)
}

func TestCheckOfPieces(t *testing.T) {
	for n := range 260 {
		want := api.OK
		if n < 1 || n > 200 {
			want = api.ErrArg
		}
		checks(t, "a series' length", rowOf(long(n), 1), want)
		checks(t, "a series' length in the second row", slices.Concat(rowOf("a", 1), rowOf(long(n), 1)), want)
		checks(t, "a series' length in the last row", slices.Concat(rowOf("a", 1), rowOf("b", 1), rowOf(long(n), 2)), want)
	}
}

func TestCheckOfOrder(t *testing.T) {
	p := func(series string, at, v int64, n uint64, node uint16) api.Piece {
		return api.Piece{Series: series, T: at, V: v, Id: api.Id{N: n, Node: node}}
	}
	for _, x := range []struct {
		what string
		l    []api.Piece
		want api.Errno
	}{
		{"rising times", []api.Piece{p("a", 1, 0, 9, 9), p("a", 2, 0, 0, 0)}, api.OK},
		{"falling times", []api.Piece{p("a", 2, 0, 0, 0), p("a", 1, 0, 9, 9)}, api.ErrArg},
		{"one time, rising ids", []api.Piece{p("a", 1, 0, 1, 1), p("a", 1, 0, 2, 1)}, api.ErrArg},
		{"one time, rising nodes", []api.Piece{p("a", 1, 0, 1, 1), p("a", 1, 0, 1, 2)}, api.ErrArg},
		{"one time, falling ids", []api.Piece{p("a", 1, 0, 2, 1), p("a", 1, 0, 1, 1)}, api.ErrArg},
		{"one piece twice", []api.Piece{p("a", 1, 0, 1, 1), p("a", 1, 0, 1, 1)}, api.ErrArg},
		{"one piece with two values", []api.Piece{p("a", 1, 0, 1, 1), p("a", 1, 1, 1, 1)}, api.ErrArg},
		{"rising series", []api.Piece{p("a", 9, 0, 9, 9), p("b", 1, 0, 0, 0)}, api.OK},
		{"rising series of one time", []api.Piece{p("a", 1, 0, 1, 1), p("b", 1, 0, 1, 1)}, api.OK},
		{"falling series", []api.Piece{p("b", 1, 0, 0, 0), p("a", 2, 0, 1, 0)}, api.ErrArg},
		{"a beginning ahead of what goes on", []api.Piece{p("a", 1, 0, 0, 0), p("aa", 0, 0, 0, 0)}, api.OK},
		{"what goes on ahead of its beginning", []api.Piece{p("aa", 0, 0, 0, 0), p("a", 1, 0, 0, 0)}, api.ErrArg},
		{"bytes above 7f", []api.Piece{p("\x7f", 0, 0, 0, 0), p("\x80", 0, 0, 0, 0), p("\xff", 0, 0, 0, 0)}, api.OK},
		{"a series that comes back", []api.Piece{p("a", 1, 0, 0, 0), p("b", 2, 0, 0, 0), p("a", 3, 0, 0, 0)}, api.ErrArg},
		{"times about 0", []api.Piece{p("a", -1, 0, 0, 0), p("a", 0, 0, 0, 0), p("a", 1, 0, 0, 0)}, api.OK},
		{"the least and the greatest time", []api.Piece{p("a", math.MinInt64, 0, 0, 0), p("a", math.MaxInt64, 0, 0, 0)}, api.OK},
		{"the greatest and the least time", []api.Piece{p("a", math.MaxInt64, 0, 0, 0), p("a", math.MinInt64, 0, 0, 0)}, api.ErrArg},
		{"a wrong one at the end", []api.Piece{p("a", 1, 0, 0, 0), p("a", 2, 0, 0, 0), p("a", 2, 0, 1, 0)}, api.ErrArg},
	} {
		checks(t, x.what, x.l, x.want)
		holds(t, x.l)
	}
}

// All triples of times, and of values, at the edges.
func TestDifferencesGoRound(t *testing.T) {
	n := edges()
	slices.Sort(n)
	for i, a := range n {
		for j, b := range n {
			for _, c := range n[j:] {
				if j > i && c > b {
					l := []api.Piece{of("a", a, c), of("a", b, a), of("a", c, b)}
					laid, e := delta.Lay(l)
					if e != api.OK {
						t.Fatal(e)
					}
					got, e := delta.Read(laid)
					if e != api.OK {
						t.Fatal(e)
					}
					asks(t, "read", got, l)
				}
			}
		}
	}
	for i := range n {
		holds(t, []api.Piece{of("a", n[i], n[len(n)-1-i]), of("b", n[len(n)-1-i], n[i])})
		for j := i + 1; j < len(n); j++ {
			holds(t, []api.Piece{of("a", n[i], n[j]), of("a", n[j], n[i])})
		}
	}
}

// Whatever their values are: pieces have as many bytes.
func TestLengthDoesNotHangOnValues(t *testing.T) {
	r := rand.New(rand.NewSource(3))
	for range 500 {
		l := drawList(r, 6, 10)
		b, e := delta.Lay(l)
		for range 4 {
			other := slices.Clone(l)
			for i := range other {
				other[i].V = drawNumber(r)
			}
			c, f := delta.Lay(other)
			if e != f || len(b) != len(c) {
				t.Fatalf("%d bytes and %d, by other values %d and %d", len(b), e, len(c), f)
			}
			if delta.Room(l) != delta.Room(other) || e == api.OK && len(c) != delta.Room(other) {
				t.Fatal("the room hangs on the values")
			}
		}
	}
}

// What is merged and has room is laid, and read as it was.
func TestMergedPiecesAreLaid(t *testing.T) {
	r := rand.New(rand.NewSource(4))
	for range 500 {
		l := drawList(r, 5, 8)
		r.Shuffle(len(l), func(i, j int) { l[i], l[j] = l[j], l[i] })
		merged := piece.Merge(l, l)
		want := api.OK
		if delta.Room(merged) > api.MaxPlain {
			want = api.ErrLong
		}
		if e := delta.Check(merged); e != want {
			t.Fatalf("Check of merged pieces = %d, want %d", e, want)
		}
		holds(t, merged)
	}
}

func TestReadOfShortBytes(t *testing.T) {
	refuses(t, "nil", nil, api.ErrShort)
	refuses(t, "none", []byte{}, api.ErrShort)
	refuses(t, "one byte", []byte{0}, api.ErrShort)
	refuses(t, "one byte", []byte{1}, api.ErrShort)
	refuses(t, "no form", []byte{0, 0}, api.ErrForm)
	refuses(t, "no form, and 00", []byte{0, 0, 0, 0}, api.ErrForm)
	refuses(t, "a told byte that isn't there", []byte{1, 0}, api.ErrShort)
	refuses(t, "two told, one there", []byte{2, 0, 0}, api.ErrShort)
	refuses(t, "none, without its room", []byte{1, 0, 0}, api.ErrForm)
	refuses(t, "none, with more than its room", []byte{1, 0, 0, 0, 0}, api.ErrForm)
	refuses(t, "256 told, 255 there", append([]byte{0, 1}, make([]byte, 255)...), api.ErrShort)
	refuses(t, "256 told, 256 there", append([]byte{0, 1}, make([]byte, 256)...), api.ErrForm)
	refuses(t, "65535 told, 65534 there", append([]byte{0xff, 0xff}, make([]byte, 65534)...), api.ErrShort)
	refuses(t, "65535 told, 65535 there", append([]byte{0xff, 0xff}, make([]byte, 65535)...), api.ErrForm)
	refuses(t, "65535 told, many there", append([]byte{0xff, 0xff}, make([]byte, 1<<20)...), api.ErrForm)
	for _, n := range []int{4096, 4097, 5000, 1 << 22} {
		refuses(t, "none, with a great room", laidAs(n, 0), api.ErrForm)
	}
}

// Each cut, and each number of bytes 00 behind: as much as the room is right.
func TestReadOfEachLength(t *testing.T) {
	for _, l := range [][]api.Piece{nil, {of("a", 5, -1)}, rowOf(long(130), 3), rowOf(long(22), 127)} {
		b, _ := delta.Lay(l)
		told := int(b[0]) + 256*int(b[1])
		for n := range len(b) {
			want := api.ErrForm
			if n < 2+told {
				want = api.ErrShort
			}
			refuses(t, "cut bytes", b[:n], want)
		}
		for n := range 70 {
			refuses(t, "grown bytes", append(slices.Clone(b), make([]byte, n+1)...), api.ErrForm)
		}
		for i := 2 + told; i < len(b); i++ {
			c := slices.Clone(b)
			c[i] = 1
			refuses(t, "another byte behind the form", c, api.ErrForm)
		}
		holds(t, l)
	}
}

// Each byte of what is laid, as each other one.
func TestReadOfEachByte(t *testing.T) {
	ok := 0
	for _, l := range [][]api.Piece{
		{of("a", 5, -1)},
		{of("a", 5, 300), of("a", 7, 0), of("bc", -70, 1<<40)},
		{{Series: "a", T: math.MinInt64, V: math.MinInt64, Id: api.Id{N: math.MaxUint64, Node: math.MaxUint16}}, of("b", 0, 0)},
	} {
		b, _ := delta.Lay(l)
		told := int(b[0])
		for i := range 2 + told + 2 {
			for c := range 256 {
				d := slices.Clone(b)
				d[i] = byte(c)
				if reads(t, "another byte", d) == api.OK {
					ok++
				}
			}
		}
	}
	if ok < 3000 {
		t.Errorf("only %d are read", ok)
	}
}

// Each two bytes of a form, as some that mean much.
func TestReadOfEachTwoBytes(t *testing.T) {
	b, _ := delta.Lay([]api.Piece{of("a", 5, -1), of("a", 6, 3)})
	some := []byte{0, 1, 2, 3, 0x0a, 0x61, 0x7f, 0x80, 0x81, 0xfe, 0xff}
	told := int(b[0])
	for i := range 2 + told {
		for j := range i {
			for _, c := range some {
				for _, d := range some {
					x := slices.Clone(b)
					x[i], x[j] = c, d
					reads(t, "two other bytes", x)
				}
			}
		}
	}
}

// Forms of pieces that stand otherwise than laid ones.
func TestReadOfOtherForms(t *testing.T) {
	for _, x := range []struct {
		what string
		room int
		form []byte
	}{
		{"a row without pieces", 11, []byte{1, 1, 'a', 0}},
		{"a row without pieces", 4, []byte{1, 1, 'a', 0}},
		{"a row without pieces, and one with one", 43, []byte{2, 1, 'a', 0, 1, 'b', 1, 10, 1, 3, 1, 0}},
		{"a series of no bytes", 42, []byte{1, 0, 1, 10, 1, 3, 1, 0}},
		{"a series of 201 bytes", 243, slices.Concat([]byte{1, 0xc9, 1}, []byte(long(201)), []byte{1, 10, 1, 3, 1, 0})},
		{"a row in two parts", 75, []byte{2, 1, 'a', 1, 10, 1, 3, 1, 0, 1, 'a', 1, 12, 1, 3, 1, 0}},
		{"a row in two parts", 82, []byte{2, 1, 'a', 1, 10, 1, 3, 1, 0, 1, 'a', 1, 12, 1, 3, 1, 0}},
		{"rows turned about", 82, []byte{2, 1, 'b', 1, 10, 1, 3, 1, 0, 1, 'a', 1, 12, 1, 3, 1, 0}},
		{"a series that comes back", 121, []byte{3, 1, 'a', 1, 10, 1, 3, 1, 0, 1, 'b', 1, 12, 1, 3, 1, 0, 1, 'a', 1, 14, 1, 3, 1, 0}},
		{"a time that stays", 75, []byte{1, 1, 'a', 2, 10, 1, 3, 1, 0, 9, 1, 4, 1, 0}},
		{"a time that goes back", 75, []byte{1, 1, 'a', 2, 10, 1, 3, 1, 0, 11, 1, 4, 1, 0}},
		{"a row too few", 82, []byte{1, 1, 'a', 1, 10, 1, 3, 1, 0, 1, 'b', 1, 12, 1, 3, 1, 0}},
		{"a row too many", 43, []byte{2, 1, 'a', 1, 10, 1, 3, 1, 0}},
		{"a piece too few", 75, []byte{1, 1, 'a', 1, 10, 1, 3, 1, 0, 2, 1, 4, 1, 0}},
		{"a piece too many", 43, []byte{1, 1, 'a', 2, 10, 1, 3, 1, 0}},
		{"a node of one byte", 43, []byte{1, 1, 'a', 1, 10, 1, 3, 1}},
		{"no node", 43, []byte{1, 1, 'a', 1, 10, 1, 3}},
		{"no N", 43, []byte{1, 1, 'a', 1, 10, 1}},
		{"half an N", 43, []byte{1, 1, 'a', 1, 10, 1, 0x83}},
		{"a text that is cut", 43, []byte{1, 9, 'a', 1, 10, 1, 3, 1, 0}},
		{"a longer short form of the rows", 43, []byte{0x81, 0, 1, 'a', 1, 10, 1, 3, 1, 0}},
		{"a longer short form of the text", 43, []byte{1, 0x81, 0, 'a', 1, 10, 1, 3, 1, 0}},
		{"a longer short form of the pieces", 43, []byte{1, 1, 'a', 0x81, 0, 10, 1, 3, 1, 0}},
		{"a longer short form of the time", 43, []byte{1, 1, 'a', 1, 0x8a, 0, 1, 3, 1, 0}},
		{"a longer short form of the value", 43, []byte{1, 1, 'a', 1, 10, 0x81, 0, 3, 1, 0}},
		{"a longer short form of N", 43, []byte{1, 1, 'a', 1, 10, 1, 0x83, 0, 1, 0}},
		{"a longer short form of none", 4, []byte{0x80, 0}},
		{"a byte behind the pieces", 43, []byte{1, 1, 'a', 1, 10, 1, 3, 1, 0, 0}},
		{"a byte behind none", 4, []byte{0, 0}},
		{"no form", 4, nil},
		{"no form, in the room of a piece", 43, nil},
		{"the greatest number of rows", 43, []byte{0xff, 0xff, 0xff, 0xff, 0xff, 0xff, 0xff, 0xff, 0xff, 1, 1, 'a', 1, 10, 1, 3, 1, 0}},
		{"the greatest number of rows without pieces", 43, append([]byte{0xff, 0xff, 0xff, 0xff, 0xff, 0xff, 0xff, 0xff, 0xff, 1}, make([]byte, 30)...)},
		{"the greatest length of a text", 43, []byte{1, 0xff, 0xff, 0xff, 0xff, 0xff, 0xff, 0xff, 0xff, 0xff, 1, 'a', 1, 10, 1, 3, 1, 0}},
		{"a text's length of 2^63", 43, []byte{1, 0x80, 0x80, 0x80, 0x80, 0x80, 0x80, 0x80, 0x80, 0x80, 1, 'a', 1, 10, 1, 3, 1, 0}},
		{"the greatest number of pieces", 43, []byte{1, 1, 'a', 0xff, 0xff, 0xff, 0xff, 0xff, 0xff, 0xff, 0xff, 0xff, 1, 10, 1, 3, 1, 0}},
		{"2^64 pieces", 43, []byte{1, 1, 'a', 0x80, 0x80, 0x80, 0x80, 0x80, 0x80, 0x80, 0x80, 0x80, 2, 10, 1, 3, 1, 0}},
	} {
		b := laidAs(x.room, x.form...)
		refuses(t, x.what, b, api.ErrForm)
		reads(t, x.what, b)
	}
}

// Pieces in order whose room is too great, laid by the second telling: there are none that are laid so.
func TestReadOfTooMany(t *testing.T) {
	for _, l := range [][]api.Piece{rowOf("a", 128), rowOf(long(23), 127), rowOf("a", 256), rowOf("a", 257), rowOf("a", 9000), rowOf(long(5000), 1), rowOf("", 127)} {
		form := tellForm(l)
		refuses(t, "too many", laidAs(tellRoom(l), form...), api.ErrForm)
		refuses(t, "too many, in a room that may be", laidAs(api.MaxPlain, form...), api.ErrForm)
		refuses(t, "too many, cut", laidAs(0, form...)[:len(form)+1], api.ErrShort)
	}
}

func TestMemory(t *testing.T) {
	l := slices.Concat(rowOf("ab", 5), rowOf("cd", 3))
	wide := append(slices.Clone(l), of("x", 1, 1), of("y", 2, 2)) // what lies behind the list's length
	before := slices.Clone(wide)
	b, e := delta.Lay(wide[:len(l)])
	if e != api.OK || delta.Check(wide[:len(l)]) != api.OK || delta.Room(wide[:len(l)]) != len(b) {
		t.Fatal(e)
	}
	asks(t, "handed in", wide, before)
	first := slices.Clone(b)
	overwrite(b, 0xee)
	b, _ = delta.Lay(l)
	asks(t, "laid once more", b, first)
	roomy := append(slices.Clone(b), bytes.Repeat([]byte{7}, 100)...)
	in := slices.Clone(roomy)
	got, e := delta.Read(roomy[:len(b)])
	if e != api.OK {
		t.Fatal(e)
	}
	asks(t, "handed in", roomy, in)
	overwrite(roomy, 0xdd)
	asks(t, "read, and its bytes written over", got, l)
	overwrite(got, api.Piece{Series: "other"})
	again, _ := delta.Read(b)
	asks(t, "read once more", again, l)
}

// overwrite writes over all of a list's memory.
func overwrite[A any](l []A, a A) {
	l = l[:cap(l)]
	for i := range l {
		l[i] = a
	}
}

// A long list is told to be too long, and long bytes to be none, at once.
func TestGreatSizes(t *testing.T) {
	l := slices.Repeat(rowOf("a", 1), 1<<20)
	checks(t, "a million pieces", l, api.ErrLong)
	series := long(1 << 24)
	for i := range l {
		if i%2 == 0 {
			l[i].Series = series // the same text each time: more than 2^42 bytes of room
		}
	}
	checks(t, "a million long series", l, api.ErrLong)
	if got, want := delta.Room(l), 4+len(l)*38+len(l)/2*(1+1<<24); got != want {
		t.Errorf("Room = %d, want %d", got, want)
	}
	refuses(t, "long bytes", bytes.Repeat([]byte{1}, 1<<24), api.ErrForm)
	refuses(t, "long bytes 00", make([]byte, 1<<24), api.ErrForm)
}
