package poly_test

import (
	"bytes"
	"crypto/sha256"
	"encoding/hex"
	"math/big"
	"math/rand"
	"strings"
	"testing"

	"quaestor/api"
	"quaestor/poly"
)

// some answers so many bytes, the same ones each time for a seed.
func some(seed, n int) []byte {
	b := make([]byte, n)
	rand.New(rand.NewSource(int64(seed))).Read(b)
	return b
}

// full answers so many bytes ff.
func full(n int) []byte {
	return bytes.Repeat([]byte{0xff}, n)
}

func unhex(t *testing.T, s string) []byte {
	t.Helper()
	b, err := hex.DecodeString(strings.ReplaceAll(s, " ", ""))
	if err != nil {
		t.Fatal(err)
	}
	return b
}

// keyOf answers the key of an r and an s whose first bytes are these.
func keyOf(r, s []byte) api.Key {
	var k api.Key
	copy(k[:16], r)
	copy(k[16:], s)
	return k
}

// whole answers the number that the bytes are, the lowest first.
func whole(b []byte) *big.Int {
	n := new(big.Int)
	for i := len(b) - 1; i >= 0; i-- {
		n.Lsh(n, 8)
		n.Or(n, big.NewInt(int64(b[i])))
	}
	return n
}

// tagOf answers n modulo 2^128 as bytes, the lowest first.
func tagOf(n *big.Int) api.Tag {
	var t api.Tag
	rest := new(big.Int).Set(n)
	for i := range t {
		t[i] = byte(new(big.Int).And(rest, big.NewInt(0xff)).Int64())
		rest.Rsh(rest, 8)
	}
	return t
}

// prime answers 2^130 - 5.
func prime() *big.Int {
	p := new(big.Int).Lsh(big.NewInt(1), 130)
	return p.Sub(p, big.NewInt(5))
}

// reckoned answers the tag by numbers of any size, as the chapter tells it.
func reckoned(k api.Key, b []byte) api.Tag {
	first := bytes.Clone(k[:16])
	for _, i := range []int{3, 7, 11, 15} {
		first[i] &= 0x0f
	}
	for _, i := range []int{4, 8, 12} {
		first[i] &^= 0x03
	}
	r, p, sum := whole(first), prime(), new(big.Int)
	for len(b) > 0 {
		n := min(16, len(b))
		sum.Add(sum, whole(append(bytes.Clone(b[:n]), 1)))
		sum.Mul(sum, r)
		sum.Mod(sum, p)
		b = b[n:]
	}
	return tagOf(sum.Add(sum, whole(k[16:])))
}

// keys are keys at the edges, and some others.
func keys() []api.Key {
	l := []api.Key{
		{}, {0: 1}, {0: 2}, {0: 4}, keyOf(full(16), nil), keyOf(nil, full(16)), keyOf(full(16), full(16)),
		keyOf([]byte{1}, full(16)), {15: 0xff}, {15: 0x0f}, {3: 0xff}, {4: 0xff}, {16: 1}, {31: 0x80},
	}
	for seed := range 6 {
		l = append(l, api.Key(some(seed, 32)))
	}
	return l
}

// RFC 8439, 2.5.2 and A.3.
func TestPublishedTags(t *testing.T) {
	const contribution = "Any submission to the IETF intended by the Contributor for publication as all or part of an IETF Internet-Draft or RFC " +
		"and any statement made within the context of an IETF activity is considered an \"IETF Contribution\". Such statements include oral " +
		"statements in IETF sessions, as well as written and electronic communications made at any time or place, which are addressed to"
	const zeros, ones = "00000000000000000000000000000000", "ffffffffffffffffffffffffffffffff"
	const half = "36e5f6b5c5e06070f0efca96227a863e"
	const four = "01000000000000000400000000000000"
	published := []struct{ key, text, tag string }{
		{"85d6be7857556d337f4452fe42d506a80103808afb0db2fd4abff6af4149f51b", "Cryptographic Forum Research Group", "a8061dc1305136c6c22b8baf0c0127a9"},
		{zeros + zeros, strings.Repeat("\x00", 64), zeros},
		{zeros + half, contribution, half},
		{half + zeros, contribution, "f3477e7cd95417af89a6b8794c310cf0"},
		{
			"1c9240a5eb55d38af333888604f6b5f0473917c1402b80099dca5cbc207075c0",
			"'Twas brillig, and the slithy toves\nDid gyre and gimble in the wabe:\nAll mimsy were the borogoves,\nAnd the mome raths outgrabe.",
			"4541669a7eaaee61e708dc7cbcc5eb62",
		},
		{"02" + zeros[2:] + zeros, string(unhex(t, ones)), "03" + zeros[2:]},
		{"02" + zeros[2:] + ones, string(unhex(t, "02"+zeros[2:])), "03" + zeros[2:]},
		{"01" + zeros[2:] + zeros, string(unhex(t, ones+"f0"+ones[2:]+"11"+zeros[2:])), "05" + zeros[2:]},
		{"01" + zeros[2:] + zeros, string(unhex(t, ones+"fb"+strings.Repeat("fe", 15)+strings.Repeat("01", 16))), zeros},
		{"02" + zeros[2:] + zeros, string(unhex(t, "fd"+ones[2:])), "fa" + ones[2:]},
		{four + zeros, string(unhex(t, "e33594d7505e43b900000000000000003394d7505e4379cd01000000000000000000000000000000000000000000000001"+zeros[2:])), "14000000000000005500000000000000"},
		{four + zeros, string(unhex(t, "e33594d7505e43b900000000000000003394d7505e4379cd010000000000000000000000000000000000000000000000")), "13" + zeros[2:]},
	}
	for i, p := range published {
		got := poly.Tag(api.Key(unhex(t, p.key)), []byte(p.text))
		if hex.EncodeToString(got[:]) != p.tag {
			t.Errorf("tag %d = %x, want %s", i, got, p.tag)
		}
	}
}

// The fingerprint of 2000 tags, of keys and bytes by a short rule, that was reckoned apart from this program.
func TestManyTagsAreThese(t *testing.T) {
	sum := sha256.New()
	for seed := range 2000 {
		drawn := make([]byte, 32+seed%300)
		x := uint64(seed)
		for i := range drawn {
			x = x*6364136223846793005 + 1442695040888963407
			drawn[i] = byte(x >> 56)
		}
		tag := poly.Tag(api.Key(drawn[:32]), drawn[32:])
		sum.Write(tag[:])
	}
	const want = "618f491870cfc849a970fde9e1e1127ccd97e18a7c29cf8c91dc1551adde7a83"
	if got := hex.EncodeToString(sum.Sum(nil)); got != want {
		t.Errorf("the fingerprint of 2000 tags = %s, want %s", got, want)
	}
}

// Tags of the greatest keys and bytes that were reckoned apart from this program.
func TestTagsOfAllBitsAreThese(t *testing.T) {
	tags := []struct {
		k   api.Key
		b   []byte
		tag string
	}{
		{api.Key(full(32)), full(4096), "2827279b4c1d3e6b93286238199e131a"},
		{api.Key(full(32)), full(4095), "2d274f69561d66399d288a06239e3bf0"},
		{api.Key(full(32)), make([]byte, 4096), "a2a0a0d6bf6d5ed97acc5104155910eb"},
		{keyOf(full(16), nil), full(1 << 16), "f3ad07edc89ff60973326908105868fa"},
	}
	for i, x := range tags {
		if got := poly.Tag(x.k, x.b); hex.EncodeToString(got[:]) != x.tag {
			t.Errorf("tag %d = %x, want %s", i, got, x.tag)
		}
	}
}

// Each length up to some blocks, so that the last one has each number of bytes.
func TestTagOfEachLength(t *testing.T) {
	for i, k := range keys() {
		for size := range 200 {
			for j, b := range [][]byte{some(i*1000+size, size), make([]byte, size), full(size)} {
				if got, want := poly.Tag(k, b), reckoned(k, b); got != want {
					t.Fatalf("Tag of %d bytes, %d, by %x = %x, want %x", size, j, k, got, want)
				}
			}
		}
	}
}

func TestTagOfManyBytes(t *testing.T) {
	for _, size := range []int{4096, 4097, 1<<16 + 5, 1 << 20} {
		for _, k := range []api.Key{api.Key(some(size, 32)), api.Key(full(32))} {
			b := some(size+1, size)
			if got, want := poly.Tag(k, b), reckoned(k, b); got != want {
				t.Errorf("Tag of %d bytes = %x, want %x", size, got, want)
			}
		}
	}
}

// aboutThePrime answers how far sums are from 2^130 - 5: where it is taken away, and where a limb hands on.
func aboutThePrime() []*big.Int {
	var l []*big.Int
	for d := int64(-40); d <= 40; d++ {
		for _, bits := range []uint{0, 26, 52, 78, 104, 127} {
			high := new(big.Int).Lsh(big.NewInt(1), bits)
			l = append(l, high.Add(high, big.NewInt(d)), new(big.Int).Neg(high))
		}
	}
	return l
}

// Three blocks, multiplied by 1, whose sum is so far from 2^130 - 5: from there on it is taken modulo that.
func TestSumAboutThePrime(t *testing.T) {
	for _, d := range aboutThePrime() {
		rest := new(big.Int).Add(prime(), d)
		rest.Sub(rest, new(big.Int).Lsh(big.NewInt(3), 128)) // the bytes 01 behind the blocks
		var b []byte
		for range 3 {
			most := whole(full(16))
			if rest.Cmp(most) < 0 {
				most.Set(rest)
			}
			laid := tagOf(most)
			b = append(b, laid[:]...)
			rest.Sub(rest, most)
		}
		left := new(big.Int).Mod(d, prime())
		for _, s := range [][]byte{nil, {1}, {5}, full(16), some(3, 16)} {
			want := tagOf(new(big.Int).Add(left, whole(s)))
			if got := poly.Tag(keyOf([]byte{1}, s), b); got != want {
				t.Errorf("a sum of 2^130 - 5 and %d, and %x = %x, want %x", d, s, got, want)
			}
		}
	}
}

// What is added at last goes round at 2^128, not at the prime.
func TestLastSumGoesRound(t *testing.T) {
	for _, x := range []struct{ r, s, b, want []byte }{
		{[]byte{1}, full(16), []byte{1}, []byte{0, 1}}, // 257, and 2^128 - 1
		{[]byte{1}, full(16), []byte{}, full(16)},
		{nil, full(16), full(40), full(16)},
		{[]byte{1}, full(16), make([]byte, 16), full(16)},
		{[]byte{1}, []byte{3}, full(16), []byte{2}},
	} {
		var want api.Tag
		copy(want[:], x.want)
		if got := poly.Tag(keyOf(x.r, x.s), x.b); got != want {
			t.Errorf("Tag by %x and %x of %x = %x, want %x", x.r, x.s, x.b, got, want)
		}
	}
}

func TestTagOfNothingIsTheLastHalf(t *testing.T) {
	for _, k := range keys() {
		want := api.Tag(k[16:])
		for i, parts := range [][][]byte{nil, {}, {nil}, {{}}, {nil, {}, nil}, {some(1, 40)[:0]}} {
			if got := poly.Tag(k, parts...); got != want {
				t.Errorf("Tag by %x of no bytes, %d = %x, want %x", k, i, got, want)
			}
		}
	}
}

// Parts are laid one behind the other, wherever they are cut.
func TestTagOfParts(t *testing.T) {
	k := api.Key(some(1, 32))
	for _, size := range []int{1, 15, 16, 17, 32, 50, 64, 65} {
		b := some(size, size)
		want := reckoned(k, b)
		tell := func(parts ...[]byte) {
			t.Helper()
			if got := poly.Tag(k, parts...); got != want {
				t.Fatalf("Tag of %d bytes in %d parts %x = %x, want %x", size, len(parts), parts, got, want)
			}
		}
		for i := range size + 1 {
			tell(b[:i], b[i:])
			tell(nil, b[:i], []byte{}, b[i:], nil)
			for j := i; j <= size; j++ {
				tell(b[:i], b[i:j], b[j:])
			}
		}
		var ones [][]byte
		for i := range b {
			ones = append(ones, b[i:i+1], nil)
		}
		tell(ones...)
	}
	long := some(2, 5000)
	if got, want := poly.Tag(k, long[:7], long[7:4103], long[4103:]), reckoned(k, long); got != want {
		t.Errorf("Tag of 5000 bytes in 3 parts = %x, want %x", got, want)
	}
}

// 22 bits of the key don't count; each other one makes another tag.
func TestTagByEachBitOfTheKey(t *testing.T) {
	none := map[int]bool{}
	for _, i := range []int{3, 7, 11, 15} {
		for bit := 4; bit < 8; bit++ {
			none[8*i+bit] = true
		}
	}
	for _, i := range []int{4, 8, 12} {
		none[8*i], none[8*i+1] = true, true
	}
	for seed := range 4 {
		k, b := api.Key(some(seed, 32)), some(100+seed, 77)
		want := poly.Tag(k, b)
		for bit := range 256 {
			other := k
			other[bit/8] ^= 1 << (bit % 8)
			if got := poly.Tag(other, b); (got == want) != none[bit] {
				t.Errorf("bit %d of the key %x: %x, and %x without it", bit, k, got, want)
			}
		}
	}
}

// Each bit of the bytes, and each byte 00 more or less, makes another tag.
func TestTagByEachBitOfTheBytes(t *testing.T) {
	k := api.Key(some(5, 32))
	for _, b := range [][]byte{some(6, 45), make([]byte, 45), full(45)} {
		told := map[api.Tag]bool{poly.Tag(k, b): true}
		tell := func(what string, n int, other []byte) {
			tag := poly.Tag(k, other)
			if told[tag] {
				t.Errorf("%s %d makes no other tag", what, n)
			}
			told[tag] = true
		}
		for bit := range 8 * len(b) {
			other := bytes.Clone(b)
			other[bit/8] ^= 1 << (bit % 8)
			tell("bit", bit, other)
		}
		for n := 1; n < 40; n++ {
			tell("bytes 00 behind:", n, append(bytes.Clone(b), make([]byte, n)...))
			tell("bytes 00 ahead:", n, append(append(make([]byte, n), b...), 1))
		}
	}
}

// What is handed in stays as it is, and isn't read behind its length; the same call has the same answer.
func TestTagLeavesWhatIsHandedIn(t *testing.T) {
	k := api.Key(some(7, 32))
	memory := some(8, 200)
	parts := append(make([][]byte, 0, 5), memory[:5], memory[20:60], memory[100:117])
	want := poly.Tag(k, parts...)
	if !bytes.Equal(memory, some(8, 200)) {
		t.Fatal("Tag wrote into what was handed in")
	}
	if len(parts) != 3 || len(parts[0]) != 5 || len(parts[1]) != 40 || len(parts[2]) != 17 || parts[:4][3] != nil {
		t.Fatal("Tag wrote into the list of parts")
	}
	for i := range memory {
		if i >= 5 && i < 20 || i >= 60 && i < 100 || i >= 117 {
			memory[i] ^= 0x55
		}
	}
	other := poly.Tag(api.Key{1, 2, 3}, []byte("between"))
	clear(other[:])
	if again := poly.Tag(k, parts...); again != want {
		t.Errorf("the same call answers %x, behind %x", again, want)
	}
}

func TestSameBytes(t *testing.T) {
	for size := range 70 {
		for _, b := range [][]byte{some(size, size), make([]byte, size), full(size)} {
			if !poly.Same(b, bytes.Clone(b)) || !poly.Same(b, b) {
				t.Errorf("%x isn't the same as itself", b)
			}
		}
	}
	b := some(1, 1<<20)
	if !poly.Same(b, bytes.Clone(b)) {
		t.Error("many bytes aren't the same as themselves")
	}
}

// One bit anywhere, from the first byte to the last one, and two that are alike.
func TestOtherBytesAreNotTheSame(t *testing.T) {
	for _, size := range []int{1, 2, 16, 32, 67} {
		for _, b := range [][]byte{some(size, size), make([]byte, size), full(size)} {
			for bit := range 8 * size {
				other := bytes.Clone(b)
				other[bit/8] ^= 1 << (bit % 8)
				if poly.Same(b, other) || poly.Same(other, b) {
					t.Errorf("bit %d of %d bytes isn't told", bit, size)
				}
				for i := range size {
					if i != bit/8 {
						twice := bytes.Clone(other)
						twice[i] ^= 1 << (bit % 8)
						if poly.Same(b, twice) {
							t.Errorf("the same bit of the bytes %d and %d of %d isn't told", bit/8, i, size)
						}
					}
				}
			}
		}
	}
	if poly.Same([]byte("abc"), []byte("bac")) || poly.Same([]byte{1, 2}, []byte{2, 1}) {
		t.Error("bytes in another order are told to be the same")
	}
}

func TestSameOfOtherLengths(t *testing.T) {
	long := make([]byte, 600)
	for i := range 600 {
		for _, j := range []int{i + 1, i + 2, i + 16, i + 255, i + 256, i + 512, 600} {
			if j > 600 || i == j {
				continue
			}
			if poly.Same(long[:i], long[:j]) || poly.Same(long[:j], long[:i]) {
				t.Errorf("%d bytes are told to be the same as %d", i, j)
			}
		}
	}
	if b := make([]byte, 1<<17); poly.Same(b[:1<<16], b) || poly.Same(b[:0], b[:1<<16]) || poly.Same(b, nil) {
		t.Error("some bytes are told to be the same as many")
	}
	// What differs in its bytes and in its length, so that one could hide the other.
	for _, x := range [][2]string{{"a", "ab"}, {"\x01", "\x00\x00"}, {"\x02\x00", "\x00"}, {"\x03", ""}, {"\x01\x01\x01", "\x00\x00"}} {
		if poly.Same([]byte(x[0]), []byte(x[1])) || poly.Same([]byte(x[1]), []byte(x[0])) {
			t.Errorf("%q is told to be the same as %q", x[0], x[1])
		}
	}
}

func TestSameOfNothing(t *testing.T) {
	nothing := [][]byte{nil, {}, some(1, 9)[:0], make([]byte, 0, 4)}
	for _, a := range nothing {
		for _, b := range nothing {
			if !poly.Same(a, b) {
				t.Error("no bytes aren't the same as none")
			}
		}
		if poly.Same(a, []byte{0}) || poly.Same([]byte{0}, a) {
			t.Error("no bytes are told to be the same as a byte 00")
		}
	}
}

func TestSameReadsItsBytesAlone(t *testing.T) {
	a, b := some(1, 40), some(2, 40)
	copy(b[:20], a[:20])
	if !poly.Same(a[:20], b[:20]) {
		t.Error("what is behind the bytes is held against each other")
	}
	want := some(2, 40)
	copy(want[:20], a[:20])
	if !bytes.Equal(a, some(1, 40)) || !bytes.Equal(b, want) {
		t.Error("Same wrote into what was handed in")
	}
}
