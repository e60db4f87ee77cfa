package lease_test

import (
	"encoding/hex"
	"testing"

	"quaestor/aead"
	"quaestor/api"
	"quaestor/lease"
)

const (
	ceiling = 1 << 62
	most    = 1<<64 - 1 // the greatest number of 64 bits
)

// edges are numbers about the least ones, Ceiling, and where 64 bits end.
func edges() []uint64 {
	l := []uint64{0, 1, 2, 3, 63, 64, 65, 255, 256, 1<<32 - 1, 1 << 32, 1<<61 - 1, 1 << 61, 1<<61 + 1}
	for _, n := range []uint64{ceiling, 1 << 63, 3 * ceiling} {
		l = append(l, n-65, n-64, n-63, n-2, n-1, n, n+1, n+2, n+64, n+65)
	}
	return append(l, most-64, most-2, most-1, most)
}

// granted answers a lease that has the numbers from a bound on, up to another one.
func granted(t *testing.T, node uint16, from, to uint64) *lease.Lease {
	t.Helper()
	l := lease.New(node, from)
	grants(t, l, to, api.OK)
	return l
}

// grants asks what Grant answers.
func grants(t *testing.T, l *lease.Lease, bound uint64, want api.Errno) {
	t.Helper()
	if e := l.Grant(bound); e != want {
		t.Fatalf("Grant(%d) = %d, want %d", bound, e, want)
	}
}

// leaves asks how many numbers are left.
func leaves(t *testing.T, l *lease.Lease, want uint64) {
	t.Helper()
	if n := l.Left(); n != want {
		t.Fatalf("Left() = %d, want %d", n, want)
	}
}

// wants asks which bound is to be stored for n more numbers.
func wants(t *testing.T, l *lease.Lease, n, bound uint64, want api.Errno) {
	t.Helper()
	if b, e := l.Wants(n); b != bound || e != want {
		t.Fatalf("Wants(%d) = %d, %d, want %d, %d", n, b, e, bound, want)
	}
}

// takes asks that the next numbers are these.
func takes(t *testing.T, l *lease.Lease, numbers ...uint64) {
	t.Helper()
	for _, want := range numbers {
		if n, e := l.Take(); n != want || e != api.OK {
			t.Fatalf("Take() = %d, %d, want %d", n, e, want)
		}
	}
}

// refuses asks that no number is there to be taken, each time it is asked, and that the lease stays as it is.
func refuses(t *testing.T, l *lease.Lease, want api.Errno) {
	t.Helper()
	bound, e := l.Wants(0)
	for range 3 {
		if n, e := l.Take(); n != 0 || e != want {
			t.Fatalf("Take() = %d, %d, want 0, %d", n, e, want)
		}
		if n, e := l.Nonce(); n != (api.Nonce{}) || e != want {
			t.Fatalf("Nonce() = %x, %d, want none, %d", n, e, want)
		}
	}
	leaves(t, l, 0)
	wants(t, l, 0, bound, e)
}

// empty answers the error by which a lease without numbers left refuses, by its bound.
func empty(bound uint64) api.Errno {
	if bound == ceiling {
		return api.ErrSpent
	}
	return api.ErrWait
}

func TestExample(t *testing.T) {
	l := lease.New(3, 10)
	grants(t, l, 12, api.OK)
	takes(t, l, 10, 11)
	refuses(t, l, api.ErrWait)
}

// A new lease has no numbers; its first one is its bound, Ceiling of greater ones.
func TestNew(t *testing.T) {
	for _, bound := range edges() {
		l := lease.New(7, bound)
		if l == nil {
			t.Fatalf("New(7, %d) is none", bound)
		}
		bound = min(bound, ceiling)
		leaves(t, l, 0)
		wants(t, l, 0, bound, api.OK)
		refuses(t, l, empty(bound))
		if bound > 0 {
			grants(t, l, bound-1, api.ErrStale)
		}
		grants(t, l, bound, api.OK)
		refuses(t, l, empty(bound))
		if bound < ceiling {
			grants(t, l, bound+1, api.OK)
			takes(t, l, bound)
			refuses(t, l, empty(bound+1))
		}
	}
}

// Each number that is taken is one fewer; what is granted is that many more.
func TestLeft(t *testing.T) {
	l := granted(t, 1, 100, 400)
	for left := uint64(300); left > 0; left-- {
		leaves(t, l, left)
		takes(t, l, 400-left)
	}
	leaves(t, l, 0)
	grants(t, l, 402, api.OK)
	leaves(t, l, 2)
	grants(t, l, 500, api.OK)
	leaves(t, l, 100)
	takes(t, l, 400)
	grants(t, l, 500, api.OK)
	leaves(t, l, 99)
	leaves(t, granted(t, 1, 0, ceiling), ceiling)
	leaves(t, granted(t, 1, ceiling-1, ceiling), 1)
}

// From each bound, so many more: their sum is never looked for by going round.
func TestWants(t *testing.T) {
	for _, from := range edges() {
		l := lease.New(1, from)
		from = min(from, ceiling)
		for _, n := range append(edges(), ceiling-from, ceiling-from+1, -from, -from+1, ceiling-1-from) {
			if n <= ceiling && from+n <= ceiling {
				wants(t, l, n, from+n, api.OK)
			} else {
				wants(t, l, n, 0, api.ErrSpent)
			}
		}
		leaves(t, l, 0)
		refuses(t, l, empty(from))
	}
}

// What is wanted is above the bound, not above the next number: what is left stays beside it.
func TestWantsIsAboveTheBound(t *testing.T) {
	l := granted(t, 1, 10, 20)
	takes(t, l, 10, 11, 12)
	wants(t, l, 0, 20, api.OK)
	wants(t, l, 5, 25, api.OK)
	wants(t, l, 64, 84, api.OK)
	wants(t, l, ceiling-20, ceiling, api.OK)
	wants(t, l, ceiling-19, 0, api.ErrSpent)
	wants(t, l, ceiling-12, 0, api.ErrSpent)
	leaves(t, l, 7)
	takes(t, l, 13)
	bound, _ := l.Wants(5)
	grants(t, l, bound, api.OK)
	leaves(t, l, 6+5)
	wants(t, l, 5, 30, api.OK)
}

func TestGrant(t *testing.T) {
	l := granted(t, 1, 10, 20)
	takes(t, l, 10, 11)
	for _, bound := range []uint64{0, 1, 9, 10, 11, 12, 13, 19} {
		grants(t, l, bound, api.ErrStale)
	}
	for _, bound := range []uint64{ceiling + 1, ceiling + 2, ceiling + 20, 1<<63 - 1, 1 << 63, 3 * ceiling, most - 1, most} {
		grants(t, l, bound, api.ErrSpent)
	}
	leaves(t, l, 8)
	wants(t, l, 0, 20, api.OK)
	grants(t, l, 20, api.OK)
	leaves(t, l, 8)
	grants(t, l, 21, api.OK)
	grants(t, l, 20, api.ErrStale)
	leaves(t, l, 9)
	takes(t, l, 12, 13, 14, 15, 16, 17, 18, 19, 20)
	refuses(t, l, api.ErrWait)
	grants(t, l, ceiling-1, api.OK)
	takes(t, l, 21)
	grants(t, l, ceiling, api.OK)
	grants(t, l, ceiling-1, api.ErrStale)
	grants(t, l, ceiling+1, api.ErrSpent)
	grants(t, l, ceiling, api.OK)
	takes(t, l, 22)
	leaves(t, l, ceiling-23)
}

// Each bound, of a lease of each bound.
func TestGrantAtTheEdges(t *testing.T) {
	for _, from := range edges() {
		for _, to := range edges() {
			l := lease.New(1, from)
			has := min(from, ceiling)
			want := api.OK
			if to < has {
				want = api.ErrStale
			} else if to > ceiling {
				want = api.ErrSpent
			}
			grants(t, l, to, want)
			if want == api.OK {
				leaves(t, l, to-has)
				has = to
			} else {
				leaves(t, l, 0)
			}
			wants(t, l, 0, has, api.OK)
		}
	}
}

// The last number is the one below Ceiling; behind it nothing helps any more.
func TestTakeAtCeiling(t *testing.T) {
	l := lease.New(1, ceiling-3)
	refuses(t, l, api.ErrWait)
	grants(t, l, ceiling-2, api.OK)
	takes(t, l, ceiling-3)
	refuses(t, l, api.ErrWait)
	wants(t, l, 2, ceiling, api.OK)
	wants(t, l, 3, 0, api.ErrSpent)
	grants(t, l, ceiling, api.OK)
	takes(t, l, ceiling-2)
	leaves(t, l, 1)
	takes(t, l, ceiling-1)
	refuses(t, l, api.ErrSpent)
	wants(t, l, 1, 0, api.ErrSpent)
	wants(t, l, most, 0, api.ErrSpent)
	grants(t, l, ceiling-1, api.ErrStale)
	grants(t, l, 0, api.ErrStale)
	grants(t, l, ceiling+1, api.ErrSpent)
	grants(t, l, ceiling, api.OK)
	refuses(t, l, api.ErrSpent)
	for _, bound := range []uint64{ceiling, ceiling + 1, 1 << 63, most} {
		l := lease.New(1, bound)
		grants(t, l, ceiling, api.OK)
		refuses(t, l, api.ErrSpent)
		wants(t, l, 0, ceiling, api.OK)
		wants(t, l, 1, 0, api.ErrSpent)
	}
}

// Numbers are taken one by one, whether more are granted ahead of the last one or behind it.
func TestTakeInOrder(t *testing.T) {
	l := lease.New(1, 0)
	for n := range uint64(1000) {
		if n%7 == 0 || n%11 == 0 {
			bound, _ := l.Wants(7)
			grants(t, l, bound, api.OK)
		}
		takes(t, l, n)
	}
}

func TestNonce(t *testing.T) {
	for _, x := range []struct {
		node uint16
		from uint64
		want []string
	}{
		{0, 0, []string{"000000000000000000000000", "010000000000000000000000"}},
		{3, 10, []string{"0a0000000000000003000000", "0b0000000000000003000000"}},
		{0x0a0b, 0x01020304050607ff, []string{"ff070605040302010b0a0000", "00080605040302010b0a0000"}},
		{0xffff, ceiling - 2, []string{"feffffffffffff3fffff0000", "ffffffffffffff3fffff0000"}},
	} {
		l := granted(t, x.node, x.from, x.from+2)
		for _, want := range x.want {
			if n, e := l.Nonce(); hex.EncodeToString(n[:]) != want || e != api.OK {
				t.Errorf("Nonce() of the node %d from %d = %x, %d, want %s", x.node, x.from, n, e, want)
			}
		}
		refuses(t, l, empty(x.from+2))
	}
}

// A nonce takes a number, as Take does: none is in both.
func TestNonceTakes(t *testing.T) {
	l := granted(t, 9, 1<<40, 1<<40+200)
	for i := range uint64(200) {
		count := 1<<40 + i
		leaves(t, l, 200-i)
		if i%3 == 0 || i%5 == 0 {
			takes(t, l, count)
			continue
		}
		want, _ := aead.NonceOf(9, count)
		if n, e := l.Nonce(); n != want || e != api.OK {
			t.Fatalf("Nonce() = %x, %d, want %x", n, e, want)
		}
	}
	refuses(t, l, api.ErrWait)
}

// Leases know nothing of each other, even those of one node and bound.
func TestLeasesOfTheirOwn(t *testing.T) {
	a, b := lease.New(1, 10), lease.New(1, 10)
	c := lease.New(2, 50)
	grants(t, a, 20, api.OK)
	refuses(t, b, api.ErrWait)
	grants(t, b, 12, api.OK)
	takes(t, a, 10, 11, 12)
	takes(t, b, 10, 11)
	refuses(t, b, api.ErrWait)
	refuses(t, c, api.ErrWait)
	wants(t, c, 1, 51, api.OK)
	takes(t, a, 13)
	leaves(t, a, 6)
	grants(t, c, ceiling, api.OK)
	takes(t, c, 50)
	leaves(t, a, 6)
}

func TestNone(t *testing.T) {
	var l *lease.Lease
	for _, n := range edges() {
		wants(t, l, n, 0, api.ErrWait)
		grants(t, l, n, api.ErrArg)
	}
	leaves(t, l, 0)
	for range 3 {
		if n, e := l.Take(); n != 0 || e != api.ErrWait {
			t.Errorf("Take() of none = %d, %d", n, e)
		}
		if n, e := l.Nonce(); n != (api.Nonce{}) || e != api.ErrWait {
			t.Errorf("Nonce() of none = %x, %d", n, e)
		}
	}
}

// The zero value is the lease of the node 0 and the bound 0.
func TestZeroValue(t *testing.T) {
	var l lease.Lease
	refuses(t, &l, api.ErrWait)
	wants(t, &l, ceiling, ceiling, api.OK)
	wants(t, &l, ceiling+1, 0, api.ErrSpent)
	grants(t, &l, 2, api.OK)
	takes(t, &l, 0)
	if n, e := l.Nonce(); n != (api.Nonce{1}) || e != api.OK {
		t.Errorf("Nonce() = %x, %d", n, e)
	}
	refuses(t, &l, api.ErrWait)
}
