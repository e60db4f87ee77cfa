package piece_test

import (
	"bytes"
	"math"
	"math/rand"
	"slices"
	"strings"
	"testing"

	"quaestor/api"
	"quaestor/piece"
)

// long answers a series of so many bytes.
func long(n int) string { return strings.Repeat("s", n) }

// of answers a piece by a series, a time, a value, and an id of the node 1.
func of(series string, at, v int64, n uint64) api.Piece {
	return api.Piece{Series: series, T: at, V: v, Id: api.Id{N: n, Node: 1}}
}

// asks asks that two lists have the same elements.
func asks[A comparable](t *testing.T, what string, got, want []A) {
	t.Helper()
	for i := range min(len(got), len(want)) {
		if got[i] != want[i] {
			t.Fatalf("%s: the element %d is %+v, want %+v", what, i, got[i], want[i])
		}
	}
	if len(got) != len(want) {
		t.Fatalf("%s: %d elements, want %d", what, len(got), len(want))
	}
}

// merges asks what lists are merged to, and that they stay as they were.
func merges(t *testing.T, what string, want []api.Piece, lists ...[]api.Piece) {
	t.Helper()
	var before [][]api.Piece
	for _, l := range lists {
		before = append(before, slices.Clone(l))
	}
	for range 2 { // the same answer each time
		asks(t, "merged "+what, piece.Merge(lists...), want)
	}
	for i, l := range lists {
		asks(t, "handed in "+what, l, before[i])
	}
}

// between asks which pieces are between two times.
func between(t *testing.T, l []api.Piece, from, to int64, want ...api.Piece) {
	t.Helper()
	if got := piece.Between(l, from, to); !slices.Equal(got, want) {
		t.Fatalf("Between(%v, %d, %d) = %v, want %v", l, from, to, got, want)
	}
}

func TestExample(t *testing.T) {
	l := []api.Piece{{Series: "a", T: 1, V: 5, Id: api.Id{N: 1}}, {Series: "a", T: 1, V: 6, Id: api.Id{N: 2}}}
	merges(t, "in one list", l[1:], l)
	merges(t, "in two", l[1:], l[:1], l[1:])
	merges(t, "turned about", l[1:], l[1:], l[:1])
}

// A series has 1 to 200 bytes, whichever; nothing else of a piece is looked at.
func TestCheck(t *testing.T) {
	for n := range 420 {
		want := api.OK
		if n < 1 || n > 200 {
			want = api.ErrArg
		}
		for _, c := range []byte{0, ' ', 's', 0x80, 0xff} {
			p := api.Piece{Series: string(bytes.Repeat([]byte{c}, n))}
			if e := piece.Check(p); e != want {
				t.Errorf("Check of %d bytes %x = %d, want %d", n, c, e, want)
			}
			p.T, p.V, p.Id = math.MinInt64, math.MaxInt64, api.Id{N: math.MaxUint64, Node: math.MaxUint16}
			if e := piece.Check(p); e != want {
				t.Errorf("Check of %d bytes %x, at the edges = %d, want %d", n, c, e, want)
			}
		}
	}
	for _, x := range []struct {
		series string
		want   api.Errno
	}{
		{strings.Repeat("ä", 100), api.OK}, // bytes count, not runes
		{strings.Repeat("ä", 100) + "a", api.ErrArg},
		{strings.Repeat("ä", 101), api.ErrArg},
		{strings.Repeat("日", 66) + "aa", api.OK},
		{strings.Repeat("日", 67), api.ErrArg},
		{long(1 << 24), api.ErrArg},
	} {
		if e := piece.Check(api.Piece{Series: x.series}); e != x.want {
			t.Errorf("Check of %d bytes = %d, want %d", len(x.series), e, x.want)
		}
	}
}

// edgeIds are ids about the ends of the numbers, rising.
func edgeIds() []api.Id {
	var l []api.Id
	for _, n := range []uint64{0, 1, 2, 255, 256, 1<<16 - 1, 1 << 16, 1<<32 - 1, 1 << 32, 1<<63 - 1, 1 << 63, math.MaxUint64 - 1, math.MaxUint64} {
		for _, node := range []uint16{0, 1, 2, 255, 256, 1<<15 - 1, 1 << 15, math.MaxUint16} {
			l = append(l, api.Id{N: n, Node: node})
		}
	}
	return l
}

func TestAbove(t *testing.T) {
	l := edgeIds()
	for i, a := range l {
		for j, b := range l {
			if got := piece.Above(a, b); got != (i > j) {
				t.Errorf("Above(%v, %v) = %v", a, b, got)
			}
		}
	}
}

// edgePieces are pieces about the ends of what is held against each other, as they stand in order.
func edgePieces() []api.Piece {
	var l []api.Piece
	for _, series := range []string{"", "\x00", "\x00\x00", "\x00\xff", "A", "Z", "a", "a\x00", "a\x00b", "a ", "a1", "aA", "aa", "ab", "b", "z", "\x7f", "\x80", "ä", "é", "日", "\xfe\xff", "\xff", "\xff\x00", "\xff\xff"} {
		for _, at := range []int64{math.MinInt64, math.MinInt64 + 1, -1 << 32, -2, -1, 0, 1, 2, 1 << 32, math.MaxInt64 - 1, math.MaxInt64} {
			for _, id := range []api.Id{{}, {Node: 1}, {Node: math.MaxUint16}, {N: 1}, {N: 1 << 63}, {N: math.MaxUint64, Node: 3}} {
				l = append(l, api.Piece{Series: series, T: at, Id: id})
			}
		}
	}
	return l
}

func TestLess(t *testing.T) {
	l := edgePieces()
	for i, a := range l {
		for j, b := range l {
			a.V, b.V = int64(i*7919%13), int64(j*7919%13) // what it is worth doesn't count
			if got := piece.Less(a, b); got != (i < j) {
				t.Fatalf("Less(%v, %v) = %v", a, b, got)
			}
		}
	}
}

// Of unlike lengths, also those of pieces that may not be.
func TestLessOfLongSeries(t *testing.T) {
	for _, n := range []int{1, 199, 200, 201, 300, 1000} {
		a, b := of(long(n), 5, 0, 5), of(long(n)+"a", 1, 0, 1)
		if !piece.Less(a, b) || piece.Less(b, a) || piece.Less(a, a) {
			t.Errorf("%d bytes don't stand ahead of those that go on", n)
		}
		b = of(long(n-1)+"t", 1, 0, 1)
		if !piece.Less(a, b) || piece.Less(b, a) {
			t.Errorf("%d bytes don't stand ahead of those whose last byte is above", n)
		}
	}
}

func TestMergeNone(t *testing.T) {
	merges(t, "no lists", nil)
	merges(t, "a list that is nil", nil, nil)
	merges(t, "lists without pieces", nil, nil, []api.Piece{}, nil)
	merges(t, "pieces that may not be", nil, []api.Piece{{}, {T: 1, V: 1, Id: api.Id{N: 1}}}, []api.Piece{of(long(201), 1, 1, 1)})
	l := []api.Piece{of("a", 1, 1, 1)}
	merges(t, "one list among none", l, nil, l, []api.Piece{})
}

// Those that may not be are left out, and count against none.
func TestMergeMayBe(t *testing.T) {
	shortest, longest := of("s", 1, 1, 1), of(long(200), 1, 1, 1)
	beyond, empty := of(long(201), 1, 9, 9), of("", 1, 9, 9)
	merges(t, "by length", []api.Piece{shortest, longest}, []api.Piece{beyond, longest, empty, shortest})
	merges(t, "by length, in many lists", []api.Piece{shortest, longest}, []api.Piece{empty}, []api.Piece{longest}, []api.Piece{beyond, beyond}, []api.Piece{shortest})
}

// At one place, the id above the others' counts, whatever the values are.
func TestMergeIds(t *testing.T) {
	ids := edgeIds()
	for i, a := range ids {
		for j, b := range ids {
			if i == j {
				continue
			}
			l := []api.Piece{{Series: "a", T: 4, V: int64(j), Id: a}, {Series: "a", T: 4, V: int64(i), Id: b}}
			merges(t, "ids", l[btoi(j > i):][:1], l)
		}
	}
}

func btoi(b bool) int {
	if b {
		return 1
	}
	return 0
}

// Of one id the greatest value counts.
func TestMergeValues(t *testing.T) {
	values := []int64{math.MinInt64, math.MinInt64 + 1, -1 << 32, -2, -1, 0, 1, 2, 1 << 32, math.MaxInt64 - 1, math.MaxInt64}
	for i, v := range values {
		for j, w := range values {
			want := of("a", 0, values[max(i, j)], 7)
			a, b, lower := of("a", 0, v, 7), of("a", 0, w, 7), of("a", 0, math.MaxInt64, 6)
			merges(t, "values in one list", []api.Piece{want}, []api.Piece{a, b})
			merges(t, "values in two", []api.Piece{want}, []api.Piece{a}, []api.Piece{b})
			merges(t, "values beside an id below", []api.Piece{want}, []api.Piece{a, lower}, []api.Piece{lower, b, a})
		}
	}
}

// Places are told apart by all bytes of a series, and by all bits of a time; ids and values that are the same don't hinder.
func TestMergePlaces(t *testing.T) {
	var want []api.Piece
	for _, p := range edgePieces() {
		if p.Series != "" && p.Id == (api.Id{}) {
			want = append(want, p)
		}
	}
	backwards := slices.Clone(want)
	slices.Reverse(backwards)
	merges(t, "places", want, backwards)
	merges(t, "places in two lists", want, want, backwards)
	var lists [][]api.Piece
	for i := range backwards {
		lists = append(lists, backwards[i:i+1])
	}
	merges(t, "places, one a list", want, lists...)
	merges(t, "digits", []api.Piece{of("a", 11, 1, 1), of("a1", 1, 2, 1), of("a11", 0, 3, 1)}, []api.Piece{of("a11", 0, 3, 1), of("a1", 1, 2, 1), of("a", 11, 1, 1)})
}

// What counts has its own time, value and id, and isn't put together of others'.
func TestMergeWhole(t *testing.T) {
	a := api.Piece{Series: "a", T: 1, V: 50, Id: api.Id{N: 5, Node: 1}}
	b := api.Piece{Series: "a", T: 1, V: 10, Id: api.Id{N: 5, Node: 2}}
	c := api.Piece{Series: "a", T: 1, V: 90, Id: api.Id{N: 4, Node: 9}}
	d := api.Piece{Series: "a", T: 2, V: 20, Id: api.Id{N: 1, Node: 0}}
	merges(t, "whole", []api.Piece{b, d}, []api.Piece{d, a}, []api.Piece{c, b})
}

func TestBetween(t *testing.T) {
	l := []api.Piece{of("b", 5, 1, 9), of("a", 3, 2, 1), of("", 4, 3, 1), of("b", 5, 1, 9), of(long(300), 3, 4, 2), of("a", -7, 5, 3), of("a", 5, 6, 2)}
	between(t, l, 3, 5, l[0], l[1], l[2], l[3], l[4], l[6])
	between(t, l, 3, 4, l[1], l[2], l[4])
	between(t, l, 4, 4, l[2])
	between(t, l, 5, 5, l[0], l[3], l[6])
	between(t, l, 4, 5, l[0], l[2], l[3], l[6])
	between(t, l, -7, -7, l[5])
	between(t, l, -6, 2)
	between(t, l, 6, math.MaxInt64)
	between(t, l, math.MinInt64, -8)
	between(t, l, 5, 3)
	between(t, l, 5, 4)
	between(t, l, math.MaxInt64, math.MinInt64)
	between(t, l, math.MinInt64, math.MaxInt64, l...)
	between(t, nil, math.MinInt64, math.MaxInt64)
	between(t, []api.Piece{}, 0, 0)
}

func TestBetweenAtTheEdges(t *testing.T) {
	times := []int64{math.MinInt64, math.MinInt64 + 1, -1, 0, 1, math.MaxInt64 - 1, math.MaxInt64}
	var l []api.Piece
	for _, at := range times {
		l = append(l, of("a", at, 0, 1))
	}
	for i, from := range times {
		for j, to := range times {
			between(t, l, from, to, l[min(i, j+1):j+1]...)
		}
	}
}

func TestIds(t *testing.T) {
	want := edgeIds()
	var l []api.Piece
	for i, id := range want {
		l = append(l, api.Piece{Series: long(i % 3 * 150), T: int64(-i), V: int64(i), Id: id}, api.Piece{Series: "a", Id: id})
	}
	asks(t, "ids that rise", piece.Ids(l), want)
	slices.Reverse(l)
	asks(t, "ids that fall", piece.Ids(l), want)
	r := rand.New(rand.NewSource(1))
	for range 20 {
		r.Shuffle(len(l), func(i, j int) { l[i], l[j] = l[j], l[i] })
		before := slices.Clone(l)
		asks(t, "ids by chance", piece.Ids(l), want)
		asks(t, "handed in", l, before)
	}
	asks(t, "one id", piece.Ids([]api.Piece{of("a", 1, 1, 3), of("b", 2, 2, 3), of("", 3, 3, 3)}), []api.Id{{N: 3, Node: 1}})
	asks(t, "no id", piece.Ids(nil), nil)
	asks(t, "no id", piece.Ids([]api.Piece{}), nil)
}

// What is handed in stays as it is, and what lies behind its length isn't read; what is answered may be written over.
func TestMemory(t *testing.T) {
	a, b, c, beyond := of("b", 1, 1, 1), of("a", 2, 2, 2), of("b", 1, 3, 3), of("b", 1, 9, 9)
	memory := []api.Piece{a, b, c, beyond, {}}
	l, before := memory[:3], slices.Clone(memory)
	for i, x := range []struct {
		ask  func() []api.Piece
		want []api.Piece
	}{
		{func() []api.Piece { return piece.Merge(l) }, []api.Piece{b, c}},
		{func() []api.Piece { return piece.Merge(l[:2]) }, []api.Piece{b, a}},
		{func() []api.Piece { return piece.Merge(l[1:2], nil, l[:1], l[:0]) }, []api.Piece{b, a}},
		{func() []api.Piece { return piece.Between(l, 1, 2) }, []api.Piece{a, b, c}},
		{func() []api.Piece { return piece.Between(l[:2], 1, 1) }, []api.Piece{a}},
	} {
		got := x.ask()
		asks(t, "asked", got, x.want)
		got = got[:cap(got)]
		for j := range got {
			got[j] = of("z", int64(i), 0, 0)
		}
		asks(t, "what was handed in", memory, before)
		asks(t, "asked once more", x.ask(), x.want)
	}
	for range 2 {
		ids := piece.Ids(l[:2])
		asks(t, "ids", ids, []api.Id{a.Id, b.Id})
		clear(ids[:cap(ids)])
		asks(t, "what was handed in", memory, before)
	}
}

// Many pieces, in lists that are long and lists that are many.
func TestMany(t *testing.T) {
	const many = 100000
	var want, l []api.Piece
	for i := range many {
		want = append(want, of("a", int64(i), int64(-i), uint64(i/2)))
	}
	for i := range many {
		l = append(l, want[many-1-i], of("a", int64(i), math.MaxInt64, uint64(i/2)-1))
	}
	for i := range want[:2] {
		want[i] = of("a", int64(i), math.MaxInt64, math.MaxUint64) // theirs go round, and are above all
	}
	merges(t, "in one long list", want, l)
	var lists [][]api.Piece
	for part := range slices.Chunk(l, 3) {
		lists = append(lists, part)
	}
	merges(t, "in many lists", want, lists...)
	if n := len(piece.Ids(l)); n != many/2+1 {
		t.Errorf("%d ids", n)
	}
	if n := len(piece.Between(l, 10, many-11)); n != 2*(many-20) {
		t.Errorf("%d between", n)
	}
}
