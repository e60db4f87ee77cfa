package shamir_test

import (
	"bytes"
	"crypto/sha256"
	"encoding/hex"
	"hash"
	"math"
	"math/rand"
	"slices"
	"testing"

	"quaestor/api"
	"quaestor/shamir"
)

// some answers so many bytes, the same ones each time for a seed.
func some(seed, n int) []byte {
	b := make([]byte, n)
	rand.New(rand.NewSource(int64(seed))).Read(b)
	return b
}

// ruled answers so many bytes by a short rule, so that others can be reckoned of them apart from this program.
func ruled(seed, n int) []byte {
	b := make([]byte, n)
	next := uint64(seed)
	for i := range b {
		next = next*6364136223846793005 + 1442695040888963407
		b[i] = byte(next >> 56)
	}
	return b
}

// times answers the product in the field, bit by bit.
func times(a, b byte) byte {
	var product byte
	for i := 7; i >= 0; i-- {
		product = product<<1 ^ product>>7*0x1b ^ b>>i&1*a
	}
	return product
}

// over answers a divided by b, which is not 0: by b to the 254.
func over(a, b byte) byte {
	for range 254 {
		a = times(a, b)
	}
	return a
}

// told answers the value at x of the polynomial of the secret's byte i, as the chapter tells it, term by term.
func told(constant byte, i, t int, draws []byte, x byte) byte {
	sum, power := constant, byte(1)
	for j := 1; j <= t-1; j++ {
		power = times(power, x)
		if at := 32*(j-1) + i; at < len(draws) {
			sum ^= times(draws[at], power)
		}
	}
	return sum
}

// toldShare answers the share of the place x, as the chapter tells it.
func toldShare(secret api.Key, x byte, t int, draws []byte) api.Share {
	share := api.Share{X: x}
	for i := range share.Y {
		share.Y[i] = told(secret[i], i, t, draws, x)
	}
	return share
}

// through answers the coefficients of the polynomial of the least degree that has these values at these places: what is behind those ahead is added place by place.
func through(places, values []byte) []byte {
	sum := make([]byte, len(places))
	zero := []byte{1} // it is 0 at each place that was gone through
	for k, x := range places {
		factor := over(values[k]^at(sum, x), at(zero, x))
		grown := make([]byte, len(zero)+1)
		for i, c := range zero {
			sum[i] ^= times(c, factor)
			grown[i+1] ^= c
			grown[i] ^= times(c, x)
		}
		zero = grown
	}
	return sum
}

// at answers the value of the polynomial at x.
func at(l []byte, x byte) byte {
	sum, power := byte(0), byte(1)
	for _, c := range l {
		sum ^= times(c, power)
		power = times(power, x)
	}
	return sum
}

// split parts a secret without an error.
func split(t *testing.T, secret api.Key, n, needed int, draws []byte) []api.Share {
	t.Helper()
	l, e := shamir.Split(secret, n, needed, draws)
	if e != api.OK {
		t.Fatalf("Split to %d, %d needed, answers the error %d", n, needed, e)
	}
	return l
}

// refresh answers shares that are refreshed, without an error.
func refresh(t *testing.T, l []api.Share, needed int, draws []byte) []api.Share {
	t.Helper()
	fresh, e := shamir.Refresh(l, needed, draws)
	if e != api.OK {
		t.Fatalf("Refresh of %d shares, %d needed, answers the error %d", len(l), needed, e)
	}
	return fresh
}

// tell asks that the shares tell this secret.
func tell(t *testing.T, what string, l []api.Share, want api.Key) {
	t.Helper()
	if got, e := shamir.Combine(l); got != want || e != api.OK {
		t.Errorf("Combine, %s: %x, %d, want %x", what, got, e, want)
	}
}

// hide asks that the shares are put together to something else than this secret.
func hide(t *testing.T, what string, l []api.Share, secret api.Key) {
	t.Helper()
	if got, e := shamir.Combine(l); got == secret || e != api.OK {
		t.Errorf("Combine, %s: %x, %d, which is the secret, or an error", what, got, e)
	}
}

// parts goes through all ways to choose some of the shares, with their number.
func parts(l []api.Share, yield func(part []api.Share)) {
	for chosen := range 1 << len(l) {
		var part []api.Share
		for i, share := range l {
			if chosen>>i&1 == 1 {
				part = append(part, share)
			}
		}
		yield(part)
	}
}

func shuffled(seed int, l []api.Share) []api.Share {
	l = slices.Clone(l)
	rand.New(rand.NewSource(int64(seed))).Shuffle(len(l), func(i, j int) { l[i], l[j] = l[j], l[i] })
	return l
}

// atPlaces answers shares of these places, of values by a rule.
func atPlaces(seed int, places ...byte) []api.Share {
	l := make([]api.Share, len(places))
	for i, x := range places {
		l[i] = api.Share{X: x, Y: api.Key(some(seed+i, 32))}
	}
	return l
}

// lay puts shares into a fingerprint.
func lay(h hash.Hash, l []api.Share) {
	for _, share := range l {
		h.Write([]byte{share.X})
		h.Write(share.Y[:])
	}
}

// isFingerprint asks that the fingerprint is that which was reckoned apart from this program.
func isFingerprint(t *testing.T, what string, h hash.Hash, want string) {
	t.Helper()
	if got := hex.EncodeToString(h.Sum(nil)); got != want {
		t.Errorf("the fingerprint of %s = %s, want %s", what, got, want)
	}
}

func TestExample(t *testing.T) {
	secret := api.Key(bytes.Repeat([]byte{7}, 32))
	for i, share := range split(t, secret, 5, 1, some(1, 300)) {
		if share.X != byte(i+1) || share.Y != secret {
			t.Errorf("share %d = %v", i, share)
		}
	}
}

// A split that was reckoned apart from this program.
func TestSplitIsThis(t *testing.T) {
	var secret api.Key
	draws := make([]byte, 64)
	for i := range secret {
		secret[i] = byte(i)
	}
	for i := range draws {
		draws[i] = byte(7*i + 3)
	}
	for i, share := range split(t, secret, 4, 3, draws) {
		want := []string{
			"e0e1e2e3e425262728696a6b6c6d2e2f3031f2f3f4f5f63738393a7b7c7d7e7f",
			"a790c9feeb51683f12053c6b7e49cbfca19694a3b6e1d8624f18213623144d7a",
			"4770291e0b71481f32655c0b1e29ebdc81b67443560138426f38015643742d1a",
			"be0bcf7a11fd628c4f0c937d16a3bd0880356adfb45ac529ea049bd8b306c277",
		}[i]
		if got := hex.EncodeToString(share.Y[:]); share.X != byte(i+1) || got != want {
			t.Errorf("share %d = %d, %s, want %s", i, share.X, got, want)
		}
	}
}

// 120 splits, of sizes by a short rule, that were reckoned apart from this program.
func TestManySplitsAreThese(t *testing.T) {
	h := sha256.New()
	for seed := range 120 {
		n := 1 + seed*7%40
		drawn := ruled(seed, 32+seed*37%1400)
		lay(h, split(t, api.Key(drawn[:32]), n, 1+seed*5%n, drawn[32:]))
	}
	isFingerprint(t, "120 splits", h, "63713cd3ec2166a8a9498f704b64c4981f6da85503df7293b26ce792b71e1ce0")
}

func TestManyRefreshedAreThese(t *testing.T) {
	h := sha256.New()
	for seed := range 120 {
		n := 1 + seed*7%40
		drawn := ruled(1000+seed, 33*n+seed*41%2000)
		l := make([]api.Share, n)
		for k := range l {
			l[k] = api.Share{X: byte(1 + (seed+6*k)%255), Y: api.Key(drawn[33*k : 33*k+32])}
		}
		lay(h, refresh(t, l, 1+seed*11%50, drawn[33*n:]))
	}
	isFingerprint(t, "120 refreshed", h, "6f45e45472a8c16d7eb58c4855088f879a219274fc62fd96a63dfbf0926923dc")
}

func TestManyCombinedAreThese(t *testing.T) {
	h := sha256.New()
	for seed := range 60 {
		drawn := ruled(2000+seed, 32*(1+seed*7%40))
		l := make([]api.Share, len(drawn)/32)
		for k := range l {
			l[k] = api.Share{X: byte(1 + (seed*3+7*k)%255), Y: api.Key(drawn[32*k:])}
		}
		secret, e := shamir.Combine(l)
		if e != api.OK {
			t.Fatalf("Combine of %d shares answers the error %d", len(l), e)
		}
		h.Write(secret[:])
	}
	isFingerprint(t, "60 put together", h, "e943f7e8d1b2b7169a3bc7f3c2651cb623168bc44bec4aa1139f09f0d9b22255")
}

// As many shares as there are places, all of which are needed.
func TestAllPlaces(t *testing.T) {
	drawn := ruled(77, 32*255)
	l := split(t, api.Key(drawn[:32]), 255, 255, drawn[32:])
	h := sha256.New()
	lay(h, l)
	isFingerprint(t, "all places", h, "a3e53c83323d03ed0d06bba5f9f401fef528176e9d1535575b92710864fda3c8")
	tell(t, "all places", l, api.Key(drawn[:32]))
	tell(t, "all places, turned about", shuffled(1, l), api.Key(drawn[:32]))
	hide(t, "all places but one", l[1:], api.Key(drawn[:32]))
}

// Draws that end anywhere are 0 behind their end, and those that aren't needed count nothing.
func TestDraws(t *testing.T) {
	secret := api.Key(some(1, 32))
	for _, needed := range []int{1, 2, 3, 5, 9} {
		for _, size := range []int{0, 1, 31, 32, 33, 63, 64, 65, 100, 127, 128, 129, 255, 256, 257, 1000} {
			draws := some(size, size)
			for i, share := range split(t, secret, 9, needed, draws) {
				if want := toldShare(secret, byte(i+1), needed, draws); share != want {
					t.Fatalf("%d needed, %d draws: share %v, want %v", needed, size, share, want)
				}
			}
			if enough := 32 * (needed - 1); size > enough && !slices.Equal(split(t, secret, 9, needed, draws), split(t, secret, 9, needed, draws[:enough])) {
				t.Errorf("%d needed: draws behind %d of %d change the shares", needed, enough, size)
			}
		}
		for i, share := range split(t, secret, 9, needed, nil) {
			if share.X != byte(i+1) || share.Y != secret {
				t.Errorf("%d needed, without draws: share %v", needed, share)
			}
		}
	}
}

func TestSplitSizes(t *testing.T) {
	for _, p := range []struct {
		n, needed int
		want      api.Errno
	}{
		{1, 1, api.OK}, {255, 1, api.OK}, {255, 254, api.OK}, {255, 255, api.OK}, {7, 7, api.OK},
		{0, 0, api.ErrArg}, {0, 1, api.ErrArg}, {1, 0, api.ErrArg}, {5, 0, api.ErrArg}, {5, -1, api.ErrArg}, {5, math.MinInt, api.ErrArg},
		{1, 2, api.ErrArg}, {5, 6, api.ErrArg}, {5, math.MaxInt, api.ErrArg}, {255, 256, api.ErrArg},
		{256, 1, api.ErrArg}, {256, 255, api.ErrArg}, {256, 256, api.ErrArg}, {257, 1, api.ErrArg}, {math.MaxInt, 1, api.ErrArg}, {math.MaxInt, math.MaxInt, api.ErrArg},
		{-1, -1, api.ErrArg}, {-1, 1, api.ErrArg}, {-1, -2, api.ErrArg}, {math.MinInt, math.MinInt, api.ErrArg}, {math.MinInt, 1, api.ErrArg}, {1<<32 + 5, 2, api.ErrArg}, {5, 1<<32 + 2, api.ErrArg},
	} {
		l, e := shamir.Split(api.Key{1}, p.n, p.needed, some(1, 100))
		if e != p.want || e != api.OK && len(l) != 0 || e == api.OK && len(l) != p.n {
			t.Errorf("Split to %d, %d needed: %d shares, %d, want the error %d", p.n, p.needed, len(l), e, p.want)
		}
		for i, share := range l {
			if share.X != byte(i+1) {
				t.Errorf("Split to %d, %d needed: share %d has the place %d", p.n, p.needed, i, share.X)
			}
		}
	}
}

// Of all shares of any number that is needed: any so many tell the secret, in any order, fewer don't.
func TestEnoughTell(t *testing.T) {
	for n := 1; n <= 7; n++ {
		for needed := 1; needed <= n; needed++ {
			secret := api.Key(some(100*n+needed, 32))
			l := split(t, secret, n, needed, some(n-needed, 32*needed))
			parts(l, func(part []api.Share) {
				switch {
				case len(part) >= needed:
					tell(t, "enough", part, secret)
					tell(t, "enough, turned about", shuffled(n, part), secret)
				case len(part) > 0:
					hide(t, "too few", part, secret)
				}
			})
		}
	}
}

// Shares of any places and values, no matter whose: the value at 0 of the polynomial through them.
func TestCombineAny(t *testing.T) {
	for seed := range 40 {
		places := make([]byte, 0, 255)
		for _, x := range rand.New(rand.NewSource(int64(seed))).Perm(255)[:1+seed*seed%23] {
			places = append(places, byte(x+1))
		}
		l := atPlaces(seed, places...)
		var want api.Key
		for i := range want {
			values := make([]byte, len(l))
			for k, share := range l {
				values[k] = share.Y[i]
			}
			want[i] = through(places, values)[0]
		}
		tell(t, "any shares", l, want)
		tell(t, "any shares, turned about", shuffled(seed, l), want)
	}
	alone := api.Key(some(1, 32))
	for x := 1; x < 256; x++ {
		tell(t, "one alone", []api.Share{{X: byte(x), Y: alone}}, alone)
	}
}

// many answers shares of all places, and then of all again.
func many(n int) []api.Share {
	l := make([]api.Share, n)
	for i := range l {
		l[i].X = byte(1 + i%255)
	}
	return l
}

// wrongPlaces are lists with the error that their places are: a place 0 is ahead of one that stands twice.
func wrongPlaces() map[string]struct {
	l    []api.Share
	want api.Errno
} {
	type row = struct {
		l    []api.Share
		want api.Errno
	}
	same := api.Share{X: 9, Y: api.Key{1}}
	return map[string]row{
		"0 alone":             {atPlaces(1, 0), api.ErrArg},
		"0 first":             {atPlaces(1, 0, 1, 2), api.ErrArg},
		"0 last":              {atPlaces(1, 1, 2, 0), api.ErrArg},
		"0 twice":             {atPlaces(1, 0, 0), api.ErrArg},
		"two":                 {atPlaces(1, 3, 3), api.ErrThere},
		"two apart":           {atPlaces(1, 3, 1, 2, 3), api.ErrThere},
		"two of 255":          {atPlaces(1, 255, 1, 255), api.ErrThere},
		"two of 1":            {atPlaces(1, 1, 255, 1), api.ErrThere},
		"two of one share":    {[]api.Share{same, same}, api.ErrThere},
		"three":               {atPlaces(1, 3, 3, 3), api.ErrThere},
		"two and two":         {atPlaces(1, 3, 4, 3, 4), api.ErrThere},
		"two, then 0":         {atPlaces(1, 3, 3, 0), api.ErrArg},
		"0, then two":         {atPlaces(1, 0, 3, 3), api.ErrArg},
		"two about 0":         {atPlaces(1, 3, 0, 3), api.ErrArg},
		"one above all":       {many(256), api.ErrThere},
		"many":                {many(100000), api.ErrThere},
		"many, and 0 at last": {append(many(100000), api.Share{}), api.ErrArg},
	}
}

func TestWrongPlaces(t *testing.T) {
	for what, p := range wrongPlaces() {
		if key, e := shamir.Combine(p.l); key != (api.Key{}) || e != p.want {
			t.Errorf("Combine, %s: %x, %d, want the error %d", what, key, e, p.want)
		}
		for _, needed := range []int{1, 2, 300, math.MaxInt} {
			if l, e := shamir.Refresh(p.l, needed, some(1, 100)); len(l) != 0 || e != p.want {
				t.Errorf("Refresh by %d, %s: %d shares, %d, want the error %d", needed, what, len(l), e, p.want)
			}
		}
		for _, needed := range []int{0, -1, math.MinInt} {
			if l, e := shamir.Refresh(p.l, needed, some(1, 100)); len(l) != 0 || e != api.ErrArg {
				t.Errorf("Refresh by %d, %s: %d shares, %d, want ErrArg", needed, what, len(l), e)
			}
		}
	}
}

func TestNone(t *testing.T) {
	for _, l := range [][]api.Share{nil, {}, atPlaces(1, 0, 1)[:0]} {
		if key, e := shamir.Combine(l); key != (api.Key{}) || e != api.ErrNone {
			t.Errorf("Combine of none: %x, %d, want ErrNone", key, e)
		}
		for _, needed := range []int{1, 2, math.MaxInt} {
			if fresh, e := shamir.Refresh(l, needed, some(1, 100)); len(fresh) != 0 || e != api.OK {
				t.Errorf("Refresh of none by %d: %d shares, %d, want none and OK", needed, len(fresh), e)
			}
		}
		for _, needed := range []int{0, -1, math.MinInt} {
			if fresh, e := shamir.Refresh(l, needed, nil); len(fresh) != 0 || e != api.ErrArg {
				t.Errorf("Refresh of none by %d: %d shares, %d, want ErrArg", needed, len(fresh), e)
			}
		}
	}
}

// Shares of any places, in any order, by any number of coefficients: what the place has of the secret 0 is added, and the order stays.
func TestRefresh(t *testing.T) {
	for _, needed := range []int{1, 2, 3, 8, 255, 256, 257, 300, 1 << 20, 1<<32 + 1, math.MaxInt} {
		for _, size := range []int{0, 1, 31, 32, 33, 64, 100, 32 * 254, 32 * 256, 9000} {
			l := atPlaces(size, 200, 3, 255, 1, 77)
			draws := some(size, size)
			fresh := refresh(t, l, needed, draws)
			if len(fresh) != len(l) {
				t.Fatalf("Refresh by %d answers %d shares of %d", needed, len(fresh), len(l))
			}
			for i, share := range l {
				more := toldShare(api.Key{}, share.X, min(needed, 2+size/32), draws) // behind the draws all is 0
				for b := range share.Y {
					share.Y[b] ^= more.Y[b]
				}
				if fresh[i] != share {
					t.Fatalf("Refresh by %d, %d draws: share %v, want %v", needed, size, fresh[i], share)
				}
			}
		}
	}
}

// By one coefficient, and without draws, nothing is added.
func TestRefreshByNothing(t *testing.T) {
	l := atPlaces(1, 9, 8, 7, 255)
	if !slices.Equal(refresh(t, l, 1, some(1, 100)), l) || !slices.Equal(refresh(t, l, 4, nil), l) || !slices.Equal(refresh(t, l, 4, make([]byte, 200)), l) {
		t.Error("Refresh by nothing changes the shares")
	}
}

// Shares that are refreshed alike, some apart from the others, tell the secret; those of before and behind it don't tell it together.
func TestRefreshedTell(t *testing.T) {
	for n := 2; n <= 6; n++ {
		for needed := 2; needed <= n; needed++ {
			secret := api.Key(some(10*n+needed, 32))
			first := split(t, secret, n, needed, some(n, 32*needed))
			l := first
			for round := range 5 {
				draws := some(1000+round, 32*(needed-1))
				fresh := refresh(t, l, needed, draws)
				l = append(refresh(t, l[:1], needed, draws), refresh(t, l[1:], needed, draws)...)
				if !slices.Equal(fresh, l) {
					t.Fatal("shares that are refreshed apart are other ones")
				}
				parts(l, func(part []api.Share) {
					if len(part) >= needed {
						tell(t, "refreshed", part, secret)
					} else if len(part) > 0 {
						hide(t, "too few refreshed", part, secret)
					}
				})
				mixed := append(slices.Clone(l[:needed-1]), first[needed-1])
				hide(t, "one of before it", mixed, secret)
			}
		}
	}
}

// drawsFor answers draws by which the secret has these shares: of each byte the polynomial through the secret at 0 and the shares.
func drawsFor(secret api.Key, known []api.Share) []byte {
	draws := make([]byte, 32*len(known))
	for i := range secret {
		places, values := []byte{0}, []byte{secret[i]}
		for _, share := range known {
			places, values = append(places, share.X), append(values, share.Y[i])
		}
		for j, c := range through(places, values)[1:] {
			draws[32*j+i] = c
		}
	}
	return draws
}

// Of fewer than are needed, any other secret has the same by some draws: they tell nothing.
func TestTooFewTellNothing(t *testing.T) {
	for n := 1; n <= 6; n++ {
		for needed := 1; needed <= n; needed++ {
			l := split(t, api.Key(some(n, 32)), n, needed, some(needed, 32*needed))
			l = refresh(t, l, needed, some(needed+1, 32*needed))
			parts(l, func(part []api.Share) {
				if len(part) >= needed {
					return
				}
				for seed := range 4 {
					other := api.Key(some(50+seed, 32))
					theirs := split(t, other, n, needed, drawsFor(other, part))
					for _, share := range part {
						if theirs[share.X-1] != share {
							t.Fatalf("%d of %d: the share %v is another one of any draws", needed, n, share)
						}
					}
				}
			})
		}
	}
}

// Each byte of one share of two is each byte of the secret, by one draw each.
func TestOneShareTellsNothing(t *testing.T) {
	for secret := range 256 {
		var seen [256]bool
		for draw := range 256 {
			l := split(t, api.Key{byte(secret)}, 3, 2, []byte{byte(draw)})
			seen[l[2].Y[0]] = true
		}
		if slices.Contains(seen[:], false) {
			t.Fatalf("the secret %02x has not all shares", secret)
		}
	}
}

// A byte of the secret, and a draw, count in the byte of the shares at the same place alone.
func TestBytesAreApart(t *testing.T) {
	secret, draws := api.Key(some(1, 32)), some(2, 96)
	as := split(t, secret, 5, 4, draws)
	for i := range 32 + len(draws) {
		otherSecret, otherDraws := secret, bytes.Clone(draws)
		if i < 32 {
			otherSecret[i] ^= 1
		} else {
			otherDraws[i-32] ^= 1
		}
		for s, share := range split(t, otherSecret, 5, 4, otherDraws) {
			for b := range share.Y {
				if like := share.Y[b] == as[s].Y[b]; like == (b == i%32) {
					t.Fatalf("byte %d that is turned, byte %d of the share %d: is it as it was? %t", i, b, s+1, like)
				}
			}
		}
	}
}

// What is handed in stays as it is, and isn't read behind its length.
func TestMemory(t *testing.T) {
	memory := some(1, 300)
	draws := memory[10:74:200]
	secret := api.Key(some(2, 32))
	want := split(t, secret, 5, 4, bytes.Clone(draws))
	if !slices.Equal(split(t, secret, 5, 4, draws), want) || !bytes.Equal(memory, some(1, 300)) {
		t.Error("Split reads behind its draws, or writes there")
	}
	shares := split(t, secret, 9, 3, some(3, 64))
	as := slices.Clone(shares)
	part := shares[2:5:8]
	fresh := refresh(t, part, 4, draws)
	if !slices.Equal(fresh, refresh(t, slices.Clone(part), 4, bytes.Clone(draws))) || !slices.Equal(shares, as) || !bytes.Equal(memory, some(1, 300)) {
		t.Error("Refresh reads what lies about its lists, or writes there")
	}
	tell(t, "a part of memory", part, secret)
	if !slices.Equal(shares, as) {
		t.Error("Combine writes into what was handed in")
	}
}

// What is answered may be written over, and nothing else changes by it.
func TestAnswersAreApart(t *testing.T) {
	secret, draws := api.Key(some(1, 32)), some(2, 96)
	first, want := split(t, secret, 5, 4, draws), split(t, secret, 5, 4, draws)
	for _, needed := range []int{1, 4} { // by one, nothing is added
		fresh := refresh(t, first, needed, draws)
		for i := range fresh {
			fresh[i] = api.Share{}
		}
		_ = append(fresh[:0], api.Share{X: 1}, api.Share{X: 2})
		if !slices.Equal(first, want) {
			t.Fatal("what Refresh answered changes what was handed in")
		}
	}
	clear(first)
	if !slices.Equal(split(t, secret, 5, 4, draws), want) {
		t.Error("what Split answered changes what it answers")
	}
}
