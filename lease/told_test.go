package lease_test

import (
	"encoding/binary"
	"math/big"
	"math/rand"
	"testing"

	"quaestor/api"
	"quaestor/disk"
	"quaestor/lease"
	"quaestor/slot"
)

// teller tells what a lease answers, by numbers of any size, as the chapter says it.
type teller struct {
	node        uint16
	next, bound *big.Int
}

func number(n uint64) *big.Int { return new(big.Int).SetUint64(n) }

// beyond tells whether a number is above Ceiling.
func beyond(n *big.Int) bool { return n.Cmp(number(ceiling)) > 0 }

func tellNew(node uint16, bound uint64) *teller {
	b := number(bound)
	if beyond(b) {
		b = number(ceiling)
	}
	return &teller{node, b, b}
}

func (r *teller) left() uint64 { return new(big.Int).Sub(r.bound, r.next).Uint64() }

func (r *teller) wants(n uint64) (uint64, api.Errno) {
	sum := new(big.Int).Add(r.bound, number(n))
	if beyond(sum) {
		return 0, api.ErrSpent
	}
	return sum.Uint64(), api.OK
}

func (r *teller) grant(bound uint64) api.Errno {
	b := number(bound)
	if b.Cmp(r.bound) < 0 {
		return api.ErrStale
	}
	if beyond(b) {
		return api.ErrSpent
	}
	r.bound = b
	return api.OK
}

func (r *teller) take() (uint64, api.Errno) {
	if r.next.Cmp(r.bound) == 0 {
		if r.bound.Cmp(number(ceiling)) == 0 {
			return 0, api.ErrSpent
		}
		return 0, api.ErrWait
	}
	n := r.next.Uint64()
	r.next = new(big.Int).Add(r.next, number(1))
	return n, api.OK
}

func (r *teller) nonce() (api.Nonce, api.Errno) {
	n, e := r.take()
	if e != api.OK {
		return api.Nonce{}, e
	}
	var b api.Nonce
	binary.LittleEndian.PutUint64(b[:], n)
	binary.LittleEndian.PutUint16(b[8:], r.node)
	return b, api.OK
}

// some answers a number: by chance an edge, a small one, one about the lease's bound, or any.
func some(chance *rand.Rand, r *teller) uint64 {
	l := edges()
	switch chance.Intn(6) {
	case 0:
		return l[chance.Intn(len(l))]
	case 1:
		return chance.Uint64() >> chance.Intn(64)
	case 2:
		return ceiling - r.bound.Uint64() + uint64(chance.Intn(7)) - 3
	case 3:
		return uint64(chance.Intn(5))
	}
	return r.bound.Uint64() + uint64(chance.Intn(9)) - 3
}

// Moves by chance, each held against what is told of them.
func TestMovesByChance(t *testing.T) {
	chance := rand.New(rand.NewSource(12))
	for range 2000 {
		node, bound := uint16(chance.Uint32()), edges()[chance.Intn(len(edges()))]
		l, r := lease.New(node, bound), tellNew(node, bound)
		for move := range 60 {
			if got, want := l.Left(), r.left(); got != want {
				t.Fatalf("move %d from %d: Left() = %d, want %d", move, bound, got, want)
			}
			n := some(chance, r)
			switch chance.Intn(5) {
			case 0:
				want, e := r.wants(n)
				wants(t, l, n, want, e)
			case 1:
				grants(t, l, n, r.grant(n))
			case 2:
				want, e := r.nonce()
				if got, has := l.Nonce(); got != want || has != e {
					t.Fatalf("move %d from %d: Nonce() = %x, %d, want %x, %d", move, bound, got, has, want, e)
				}
			default:
				want, e := r.take()
				if got, has := l.Take(); got != want || has != e {
					t.Fatalf("move %d from %d: Take() = %d, %d, want %d, %d", move, bound, got, has, want, e)
				}
			}
		}
	}
}

// owner takes numbers of a lease whose bounds are stored on a disk of its own.
type owner struct {
	node uint16
	disk *disk.Disk
	pair *slot.Pair
	l    *lease.Lease
}

// start starts an owner anew: its lease begins at the bound that is stored.
func (o *owner) start(t *testing.T) {
	t.Helper()
	p, e := slot.Open(o.disk, 0, 2)
	if e != api.OK {
		t.Fatalf("Open answers the error %d", e)
	}
	bound := uint64(0)
	if b, _, e := p.Load(); e == api.OK {
		bound = binary.LittleEndian.Uint64(b)
	}
	o.pair, o.l = p, lease.New(o.node, bound)
}

// more stores a bound, and grants it if it was stored.
func (o *owner) more(t *testing.T, n uint64) bool {
	t.Helper()
	bound, e := o.l.Wants(n)
	if e != api.OK {
		t.Fatalf("Wants(%d) answers the error %d", n, e)
	}
	if _, e := o.pair.Save(binary.LittleEndian.AppendUint64(nil, bound)); e != api.OK {
		return false
	}
	grants(t, o.l, bound, api.OK)
	return true
}

// The power goes off at any change of any owner's disk, with any fates: no number is taken twice, and no nonce of any of them.
func TestUnlikeWheneverThePowerGoesOff(t *testing.T) {
	chance := rand.New(rand.NewSource(3))
	for range 40 {
		var l []*owner
		numbers := make([]map[uint64]bool, 3)
		nonces := map[api.Nonce]bool{}
		for i := range numbers {
			o := &owner{node: uint16(256 * i), disk: disk.New()}
			o.start(t)
			l, numbers[i] = append(l, o), map[uint64]bool{}
		}
		for range 500 {
			i := chance.Intn(len(l))
			o := l[i]
			lives := true
			switch chance.Intn(12) {
			case 0:
				o.disk.Fuse(1 + chance.Intn(5))
			case 1:
				lives = false // it starts anew, with what was stored
			case 2:
				lives = o.more(t, uint64(chance.Intn(6)))
			default:
				if o.l.Left() == 0 {
					lives = o.more(t, 4)
					break
				}
				takeUnlike(t, o, numbers[i], nonces, chance.Intn(2) == 0)
			}
			if !lives {
				o.disk.Boot([]byte{byte(chance.Intn(3)), byte(chance.Intn(3)), byte(chance.Intn(3))})
				o.start(t)
			}
		}
		for i := range numbers {
			if len(numbers[i]) < 20 {
				t.Fatalf("only %d numbers were taken", len(numbers[i]))
			}
		}
	}
}

// takeUnlike takes a number, or a nonce, that nobody took ahead of it.
func takeUnlike(t *testing.T, o *owner, numbers map[uint64]bool, nonces map[api.Nonce]bool, plain bool) {
	t.Helper()
	var n uint64
	var e api.Errno
	if plain {
		n, e = o.l.Take()
	} else {
		var nonce api.Nonce
		nonce, e = o.l.Nonce()
		if nonces[nonce] {
			t.Fatalf("the nonce %x is taken twice", nonce)
		}
		nonces[nonce] = true
		n = binary.LittleEndian.Uint64(nonce[:])
	}
	if e != api.OK || numbers[n] {
		t.Fatalf("the node %d takes %d again, or the error %d", o.node, n, e)
	}
	numbers[n] = true
}

// New leases whose bound is the one granted last, or above it, go on behind all numbers of before.
func TestUnlikeOfNewLeases(t *testing.T) {
	chance := rand.New(rand.NewSource(4))
	taken := map[uint64]bool{}
	last := uint64(0) // the bound granted last
	for range 2000 {
		l := lease.New(1, last+uint64(chance.Intn(2)*chance.Intn(50)))
		for range chance.Intn(3) {
			bound, _ := l.Wants(uint64(chance.Intn(20)))
			grants(t, l, bound, api.OK)
			last = bound
			for range chance.Intn(30) {
				n, e := l.Take()
				if e != api.OK {
					break
				}
				if taken[n] || n >= last {
					t.Fatalf("%d is taken, twice or at the bound %d", n, last)
				}
				taken[n] = true
			}
		}
	}
	if len(taken) < 2000 {
		t.Fatalf("only %d numbers were taken", len(taken))
	}
}
