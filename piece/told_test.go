package piece_test

import (
	"math"
	"math/big"
	"math/rand"
	"slices"
	"testing"

	"quaestor/api"
	"quaestor/piece"
)

// number answers an id as one number: N stands above Node.
func number(id api.Id) *big.Int {
	n := new(big.Int).SetUint64(id.N)
	return n.Add(n.Lsh(n, 16), big.NewInt(int64(id.Node)))
}

func tellAbove(a, b api.Id) bool { return number(a).Cmp(number(b)) > 0 }

// tellTexts answers below 0, if the text a is ahead of b, byte by byte, 0 if they are the same, else above 0.
func tellTexts(a, b string) int {
	for i := range min(len(a), len(b)) {
		if a[i] != b[i] {
			return int(a[i]) - int(b[i])
		}
	}
	return len(a) - len(b)
}

func tellLess(a, b api.Piece) bool {
	if n := tellTexts(a.Series, b.Series); n != 0 {
		return n < 0
	}
	if n := big.NewInt(a.T).Cmp(big.NewInt(b.T)); n != 0 {
		return n < 0
	}
	return number(a.Id).Cmp(number(b.Id)) < 0
}

func tellMayBe(p api.Piece) bool { return len(p.Series) >= 1 && len(p.Series) <= 200 }

func tellSamePlace(a, b api.Piece) bool {
	return tellTexts(a.Series, b.Series) == 0 && big.NewInt(a.T).Cmp(big.NewInt(b.T)) == 0
}

// tellOutdone tells whether another piece of p's place counts, and p doesn't.
func tellOutdone(p api.Piece, all []api.Piece) bool {
	for _, o := range all {
		if !tellSamePlace(p, o) {
			continue
		}
		n := number(o.Id).Cmp(number(p.Id))
		if n > 0 || n == 0 && big.NewInt(o.V).Cmp(big.NewInt(p.V)) > 0 {
			return true
		}
	}
	return false
}

// tellMerge holds each piece against each other one, and lays those that count one by one where they stand.
func tellMerge(lists ...[]api.Piece) []api.Piece {
	var all []api.Piece
	for _, l := range lists {
		for _, p := range l {
			if tellMayBe(p) {
				all = append(all, p)
			}
		}
	}
	var out []api.Piece
	for _, p := range all {
		if tellOutdone(p, all) {
			continue
		}
		at, twice := 0, false
		for i, o := range out {
			twice = twice || o == p
			if tellLess(o, p) {
				at = i + 1
			}
		}
		if !twice {
			out = slices.Insert(out, at, p)
		}
	}
	return out
}

func tellBetween(l []api.Piece, from, to int64) []api.Piece {
	var out []api.Piece
	for _, p := range l {
		if t := big.NewInt(p.T); t.Cmp(big.NewInt(from)) >= 0 && t.Cmp(big.NewInt(to)) <= 0 {
			out = append(out, p)
		}
	}
	return out
}

func tellIds(l []api.Piece) []api.Id {
	var out []api.Id
	for _, p := range l {
		at, twice := 0, false
		for i, id := range out {
			twice = twice || id == p.Id
			if tellAbove(p.Id, id) {
				at = i + 1
			}
		}
		if !twice {
			out = slices.Insert(out, at, p.Id)
		}
	}
	return out
}

// oneOf answers one of some things, by chance.
func oneOf[A any](r *rand.Rand, l ...A) A { return l[r.Intn(len(l))] }

// some answers so many pieces by chance: the fewer kinds, the more of them meet at one place, or by one id.
func some(r *rand.Rand, n, kinds int) []api.Piece {
	l := make([]api.Piece, n)
	for i := range l {
		l[i] = api.Piece{
			Series: oneOf(r, "a", "a\x00", "aa", "b", "\xff", "ä", long(199), long(200), string(rune('c'+r.Intn(kinds)))),
			T:      oneOf(r, math.MinInt64, math.MaxInt64, int64(r.Intn(kinds)), -int64(r.Intn(kinds)), int64(r.Uint64())),
			V:      oneOf(r, math.MinInt64, math.MaxInt64, int64(r.Intn(kinds)), -int64(r.Intn(kinds)), int64(r.Uint64())),
			Id: api.Id{
				N:    oneOf(r, 0, math.MaxUint64, 1<<63-1, 1<<63, uint64(r.Intn(kinds)), r.Uint64()),
				Node: oneOf(r, 0, math.MaxUint16, uint16(r.Intn(kinds))),
			},
		}
		if r.Intn(3) > 0 {
			l[i].Series, l[i].T = "a", int64(r.Intn(kinds)) // so that there are others of its place
		}
		if r.Intn(3) == 0 {
			l[i].Id = api.Id{N: uint64(r.Intn(3))}
		}
		if r.Intn(20) == 0 {
			l[i].Series = oneOf(r, "", long(201), long(1000))
		}
	}
	return l
}

// Lists by chance, each answer held against what is told of it.
func TestListsByChance(t *testing.T) {
	for seed := range 1500 {
		r := rand.New(rand.NewSource(int64(seed)))
		lists := make([][]api.Piece, r.Intn(5))
		for i := range lists {
			lists[i] = some(r, r.Intn(30), 1+r.Intn(9))
		}
		merges(t, "by chance", tellMerge(lists...), lists...)
		for _, l := range lists {
			from, to := int64(r.Intn(12)-4), int64(r.Intn(12)-4)
			between(t, l, from, to, tellBetween(l, from, to)...)
			asks(t, "by chance", piece.Ids(l), tellIds(l))
			for range 5 {
				if len(l) > 0 {
					holds(t, oneOf(r, l...), oneOf(r, l...))
				}
			}
		}
	}
}

// holds asks what is told of two pieces.
func holds(t *testing.T, a, b api.Piece) {
	t.Helper()
	if got, want := piece.Less(a, b), tellLess(a, b); got != want {
		t.Errorf("Less(%v, %v) = %v", a, b, got)
	}
	if got, want := piece.Above(a.Id, b.Id), tellAbove(a.Id, b.Id); got != want {
		t.Errorf("Above(%v, %v) = %v", a.Id, b.Id, got)
	}
	want := api.ErrArg
	if tellMayBe(a) {
		want = api.OK
	}
	if e := piece.Check(a); e != want {
		t.Errorf("Check(%v) = %d, want %d", a, e, want)
	}
}

// Whatever is merged first, and in whichever order: the same.
func TestMergeInAnyOrder(t *testing.T) {
	for seed := range 500 {
		r := rand.New(rand.NewSource(int64(seed)))
		lists := make([][]api.Piece, 2+r.Intn(5))
		for i := range lists {
			lists[i] = some(r, r.Intn(40), 1+r.Intn(6))
		}
		want := tellMerge(lists...)
		merges(t, "once more", want, want)
		merges(t, "twice", want, append(slices.Clone(lists), lists...)...)
		r.Shuffle(len(lists), func(i, j int) { lists[i], lists[j] = lists[j], lists[i] })
		merges(t, "turned about", want, lists...)
		all := slices.Concat(lists...)
		r.Shuffle(len(all), func(i, j int) { all[i], all[j] = all[j], all[i] })
		merges(t, "in one list", want, all)
		for len(lists) > 1 { // any two of them first
			i := r.Intn(len(lists) - 1)
			lists[i] = piece.Merge(lists[i], lists[i+1])
			lists = slices.Delete(lists, i+1, i+2)
		}
		asks(t, "two by two", lists[0], want)
	}
}

// All orders of some pieces of one place, and others.
func TestMergeInAllOrders(t *testing.T) {
	l := []api.Piece{
		{Series: "a", T: 1, V: 9, Id: api.Id{N: 2, Node: 1}},
		{Series: "a", T: 1, V: -3, Id: api.Id{N: 2, Node: 2}},
		{Series: "a", T: 1, V: 4, Id: api.Id{N: 2, Node: 2}},
		{Series: "a", T: 1, V: 100, Id: api.Id{N: 1, Node: 7}},
		{Series: "a", T: 0, V: 5, Id: api.Id{N: 1}},
		{Series: "", T: 1, V: 200, Id: api.Id{N: 3}},
	}
	want := []api.Piece{l[4], l[2]}
	count := 0
	var turn func(k int)
	turn = func(k int) {
		if k == len(l) {
			count++
			merges(t, "in one list", want, l)
			merges(t, "in two", want, l[:count%len(l)], l[count%len(l):])
			return
		}
		for i := k; i < len(l); i++ {
			l[k], l[i] = l[i], l[k]
			turn(k + 1)
			l[k], l[i] = l[i], l[k]
		}
	}
	turn(0)
	if count != 720 {
		t.Fatalf("%d orders", count)
	}
}
