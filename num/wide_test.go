package num_test

import (
	"math"
	"math/big"
	"math/rand"
	"testing"

	"quaestor/api"
	"quaestor/num"
)

var (
	least    = api.Wide{Hi: math.MinInt64}
	greatest = api.Wide{Hi: math.MaxInt64, Lo: math.MaxUint64}
)

// whole answers the number that w stands for.
func whole(w api.Wide) *big.Int {
	n := new(big.Int).Lsh(big.NewInt(w.Hi), 64)
	return n.Add(n, new(big.Int).SetUint64(w.Lo))
}

// wides are wide numbers about which something turns, and some others.
func wides() []api.Wide {
	his := []int64{math.MinInt64, math.MinInt64 + 1, -1 << 32, -2, -1, 0, 1, 2, 1 << 32, math.MaxInt64 - 1, math.MaxInt64}
	los := []uint64{0, 1, 2, 1<<32 - 1, 1 << 32, 1<<63 - 1, 1 << 63, math.MaxUint64 - 1, math.MaxUint64}
	var l []api.Wide
	for _, hi := range his {
		for _, lo := range los {
			l = append(l, api.Wide{Hi: hi, Lo: lo})
		}
	}
	r := rand.New(rand.NewSource(2))
	for range 200 {
		l = append(l, api.Wide{Hi: int64(r.Uint64()) >> r.Intn(64), Lo: r.Uint64() >> r.Intn(64)})
	}
	return l
}

func TestWide(t *testing.T) {
	for _, n := range edges() {
		if got := num.Wide(int64(n)); whole(got).Cmp(big.NewInt(int64(n))) != 0 {
			t.Errorf("Wide(%d) = %v", int64(n), got)
		}
	}
}

func TestAdd(t *testing.T) {
	from, to := whole(least), whole(greatest)
	for _, a := range wides() {
		for _, b := range wides() {
			want := new(big.Int).Add(whole(a), whole(b))
			got, e := num.Add(a, b)
			if want.Cmp(from) < 0 || want.Cmp(to) > 0 {
				if got != (api.Wide{}) || e != api.ErrOver {
					t.Fatalf("Add(%v, %v) = %v, %d, want ErrOver", a, b, got, e)
				}
			} else if e != api.OK || whole(got).Cmp(want) != 0 {
				t.Fatalf("Add(%v, %v) = %v, %d, want %v", a, b, got, e, want)
			}
		}
	}
}

func TestAddAtTheBounds(t *testing.T) {
	one, none := num.Wide(1), num.Wide(-1)
	over := [][2]api.Wide{{greatest, one}, {one, greatest}, {least, none}, {none, least}, {least, least}, {greatest, greatest}}
	for _, x := range over {
		if got, e := num.Add(x[0], x[1]); got != (api.Wide{}) || e != api.ErrOver {
			t.Errorf("Add(%v, %v) = %v, %d, want ErrOver", x[0], x[1], got, e)
		}
	}
	in := [][3]api.Wide{
		{greatest, num.Wide(0), greatest}, {least, num.Wide(0), least}, {greatest, least, none}, {least, greatest, none},
		{api.Wide{Hi: math.MinInt64, Lo: 1}, none, least}, {api.Wide{Hi: math.MaxInt64, Lo: math.MaxUint64 - 1}, one, greatest},
		{none, one, num.Wide(0)}, {none, none, num.Wide(-2)},
	}
	for _, x := range in {
		if got, e := num.Add(x[0], x[1]); got != x[2] || e != api.OK {
			t.Errorf("Add(%v, %v) = %v, %d, want %v", x[0], x[1], got, e, x[2])
		}
	}
}

func TestLess(t *testing.T) {
	for _, a := range wides() {
		for _, b := range wides() {
			if got, want := num.Less(a, b), whole(a).Cmp(whole(b)) < 0; got != want {
				t.Fatalf("Less(%v, %v) = %v", a, b, got)
			}
		}
	}
}

func TestText(t *testing.T) {
	texts := []struct {
		w    api.Wide
		text string
	}{
		{num.Wide(0), "0"}, {num.Wide(7), "7"}, {num.Wide(-7), "-7"}, {num.Wide(10), "10"}, {num.Wide(-100), "-100"},
		{num.Wide(math.MinInt64), "-9223372036854775808"},
		{api.Wide{Lo: math.MaxUint64}, "18446744073709551615"},
		{api.Wide{Hi: 1}, "18446744073709551616"},
		{api.Wide{Hi: -1}, "-18446744073709551616"},
		{greatest, "170141183460469231731687303715884105727"},
		{least, "-170141183460469231731687303715884105728"},
	}
	for _, x := range texts {
		if got := num.Text(x.w); got != x.text {
			t.Errorf("Text(%v) = %q, want %q", x.w, got, x.text)
		}
	}
	for _, w := range wides() {
		if got, want := num.Text(w), whole(w).String(); got != want {
			t.Errorf("Text(%v) = %q, want %q", w, got, want)
		}
	}
}

func TestFloor(t *testing.T) {
	quotients := [][3]int64{
		{7, 2, 3}, {-7, 2, -4}, {7, -2, -4}, {-7, -2, 3}, {6, 3, 2}, {-6, 3, -2}, {6, -3, -2}, {-6, -3, 2},
		{0, 5, 0}, {0, -5, 0}, {1, 5, 0}, {-1, 5, -1}, {1, -5, -1}, {-1, -5, 0},
		{math.MinInt64, 1, math.MinInt64}, {math.MaxInt64, -1, -math.MaxInt64}, {math.MinInt64 + 1, -1, math.MaxInt64},
		{math.MinInt64, math.MinInt64, 1}, {math.MinInt64, math.MaxInt64, -2}, {math.MaxInt64, math.MinInt64, -1},
		{1, math.MinInt64, -1}, {-1, math.MinInt64, 0}, {math.MinInt64, -2, 1 << 62},
	}
	for _, x := range quotients {
		if got, e := num.Floor(x[0], x[1]); got != x[2] || e != api.OK {
			t.Errorf("Floor(%d, %d) = %d, %d, want %d", x[0], x[1], got, e, x[2])
		}
	}
}

func TestFloorErrors(t *testing.T) {
	for _, a := range []int64{math.MinInt64, -1, 0, 1, math.MaxInt64} {
		if got, e := num.Floor(a, 0); got != 0 || e != api.ErrArg {
			t.Errorf("Floor(%d, 0) = %d, %d, want ErrArg", a, got, e)
		}
	}
	if got, e := num.Floor(math.MinInt64, -1); got != 0 || e != api.ErrOver {
		t.Errorf("Floor(least, -1) = %d, %d, want ErrOver", got, e)
	}
}

// Against numbers of any size: the quotient of a floor division is what Div answers where the divisor is above 0.
func TestFloorOfMany(t *testing.T) {
	numbers := edges()
	for _, x := range numbers {
		for _, y := range numbers {
			a, b := int64(x), int64(y)
			if b == 0 || a == math.MinInt64 && b == -1 {
				continue
			}
			p, q := big.NewInt(a), big.NewInt(b)
			if b < 0 {
				p, q = p.Neg(p), q.Neg(q)
			}
			want := p.Div(p, q)
			if got, e := num.Floor(a, b); e != api.OK || want.Cmp(big.NewInt(got)) != 0 {
				t.Fatalf("Floor(%d, %d) = %d, %d, want %v", a, b, got, e, want)
			}
		}
	}
}
