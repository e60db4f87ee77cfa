package hkdf_test

import (
	"bytes"
	"crypto/hkdf"
	"crypto/hmac"
	"crypto/sha256"
	"encoding/binary"
	"encoding/hex"
	"math"
	"math/rand"
	"strings"
	"testing"

	"quaestor/api"
	ours "quaestor/hkdf"
)

// some answers so many bytes, the same ones each time for a seed.
func some(seed, n int) []byte {
	b := make([]byte, n)
	rand.New(rand.NewSource(int64(seed))).Read(b)
	return b
}

// count answers the bytes from the first one to the last one.
func count(from, to int) []byte {
	var b []byte
	for c := from; c <= to; c++ {
		b = append(b, byte(c))
	}
	return b
}

func unhex(t *testing.T, s string) []byte {
	t.Helper()
	b, err := hex.DecodeString(s)
	if err != nil {
		t.Fatal(err)
	}
	return b
}

// mac answers the code as the library tells it.
func mac(key, msg []byte) api.Sum {
	h := hmac.New(sha256.New, key)
	h.Write(msg)
	return api.Sum(h.Sum(nil))
}

// expand answers what is expanded as the library tells it.
func expand(t *testing.T, key, info []byte, n int) []byte {
	t.Helper()
	b, err := hkdf.Expand(sha256.New, key, string(info), n)
	if err != nil {
		t.Fatal(err)
	}
	return b
}

func TestPublishedCodes(t *testing.T) {
	published := []struct {
		key, msg []byte
		sum      string
	}{
		{[]byte("key"), []byte("The quick brown fox jumps over the lazy dog"), "f7bc83f430538424b13298e6aa6fb143ef4d59a14946175997479dbc2d1a3cd8"},
		{nil, nil, "b613679a0814d9ec772f95d778c35fc5ff1697c493715653c6c712144292c5ad"},
		// RFC 4231, 1 to 4, 6 and 7.
		{bytes.Repeat([]byte{0x0b}, 20), []byte("Hi There"), "b0344c61d8db38535ca8afceaf0bf12b881dc200c9833da726e9376c2e32cff7"},
		{[]byte("Jefe"), []byte("what do ya want for nothing?"), "5bdcc146bf60754e6a042426089575c75a003f089d2739839dec58b964ec3843"},
		{bytes.Repeat([]byte{0xaa}, 20), bytes.Repeat([]byte{0xdd}, 50), "773ea91e36800e46854db8ebd09181a72959098b3ef8c122d9635514ced565fe"},
		{count(1, 25), bytes.Repeat([]byte{0xcd}, 50), "82558a389a443c0ea4cc819899f2083a85f0faa3e578f8077a2e3ff46729665b"},
		{bytes.Repeat([]byte{0xaa}, 131), []byte("Test Using Larger Than Block-Size Key - Hash Key First"), "60e431591ee0b67f0d8a26aacbf5b77f8e0bc6213728c5140546040f0ee37f54"},
		{
			bytes.Repeat([]byte{0xaa}, 131),
			[]byte("This is a test using a larger than block-size key and a larger than block-size data. The key needs to be hashed before being used by the HMAC algorithm."),
			"9b09ffa71b942fcb27635fbcd5b0e944bfdc63644f0713938a7f51535c3a35e2",
		},
	}
	for _, p := range published {
		s := ours.Mac(p.key, p.msg)
		if got := hex.EncodeToString(s[:]); got != p.sum {
			t.Errorf("Mac(%x, %q) = %s, want %s", p.key, p.msg, got, p.sum)
		}
	}
}

// Each length of a key up to some blocks: 64 among them, up to which a key stands for itself.
func TestCodeByKeyOfEachLength(t *testing.T) {
	for n := range 200 {
		for _, key := range [][]byte{some(n, n), make([]byte, n), bytes.Repeat([]byte{0xff}, n), bytes.Repeat([]byte{0x36}, n), bytes.Repeat([]byte{0x5c}, n)} {
			for _, size := range []int{0, 1, 55, 64, 200} {
				msg := some(1000+size, size)
				if got, want := ours.Mac(key, msg), mac(key, msg); got != want {
					t.Fatalf("Mac(%x, %x) = %x, want %x", key, msg, got, want)
				}
			}
		}
	}
	for _, n := range []int{4096, 65535, 1 << 20} {
		if got, want := ours.Mac(some(1, n), some(2, 10)), mac(some(1, n), some(2, 10)); got != want {
			t.Errorf("a key of %d bytes: %x, want %x", n, got, want)
		}
	}
}

func TestCodeOfMessageOfEachLength(t *testing.T) {
	for n := range 300 {
		msg := some(n, n)
		for _, size := range []int{0, 3, 32, 64, 65} {
			key := some(size, size)
			if got, want := ours.Mac(key, msg), mac(key, msg); got != want {
				t.Fatalf("Mac(%x, %x) = %x, want %x", key, msg, got, want)
			}
		}
	}
	if got, want := ours.Mac(some(1, 32), some(2, 1<<20)), mac(some(1, 32), some(2, 1<<20)); got != want {
		t.Errorf("a message of 2^20 bytes: %x, want %x", got, want)
	}
}

// Bytes 00 behind a key up to 64 are no other key; a key of 65 bytes is its fingerprint.
func TestKeysWithOneCode(t *testing.T) {
	msg := []byte("measure")
	key := some(3, 20)
	for n := range 45 {
		longer := append(bytes.Clone(key), make([]byte, n)...)
		if got, want := ours.Mac(longer, msg), ours.Mac(key, msg); got != want {
			t.Errorf("with %d bytes 00 behind the key: %x, want %x", n, got, want)
		}
	}
	long := some(4, 65)
	short := sha256.Sum256(long)
	if got, want := ours.Mac(long, msg), ours.Mac(short[:], msg); got != want {
		t.Errorf("by a key of 65 bytes: %x, by its fingerprint: %x", got, want)
	}
	whole := some(4, 64)
	short = sha256.Sum256(whole)
	if ours.Mac(whole, msg) == ours.Mac(short[:], msg) {
		t.Error("a key of 64 bytes is taken by its fingerprint")
	}
}

func TestNilIsEmpty(t *testing.T) {
	if ours.Mac(nil, nil) != ours.Mac([]byte{}, []byte{}) || ours.Extract(nil, nil) != ours.Extract([]byte{}, []byte{}) {
		t.Error("nil and no bytes have unlike codes")
	}
	a, e := ours.Expand(nil, nil, 50)
	b, f := ours.Expand([]byte{}, []byte{}, 50)
	if !bytes.Equal(a, b) || e != api.OK || f != api.OK || !bytes.Equal(a, expand(t, nil, nil, 50)) {
		t.Errorf("Expand of nil: %x, %d; of no bytes: %x, %d", a, e, b, f)
	}
}

// RFC 5869, A.1 to A.3.
func TestPublishedKeys(t *testing.T) {
	published := []struct {
		given, salt, info []byte
		extracted, to     string
	}{
		{
			bytes.Repeat([]byte{0x0b}, 22), count(0, 0x0c), count(0xf0, 0xf9),
			"077709362c2e32df0ddc3f0dc47bba6390b6c73bb50f9c3122ec844ad7c2b3e5",
			"3cb25f25faacd57a90434f64d0362f2a2d2d0a90cf1a5a4c5db02d56ecc4c5bf34007208d5b887185865",
		},
		{
			count(0, 0x4f), count(0x60, 0xaf), count(0xb0, 0xff),
			"06a6b88c5853361a06104c9ceb35b45cef760014904671014a193f40c15fc244",
			"b11e398dc80327a1c8e7f78c596a49344f012eda2d4efad8a050cc4c19afa97c59045a99cac7827271cb41c65e590e09da3275600c2f09b8367793a9aca3db71cc30c58179ec3e87c14c01d5c1f3434f1d87",
		},
		{
			bytes.Repeat([]byte{0x0b}, 22), nil, nil,
			"19ef24a32c717b167f33a91d6f648bdf96596776afdb6377ac434c1c293ccb04",
			"8da4e775a563c18f715f802a063c5a31b8a11f5c5ee1879ec3454e5f3c738d2d9d201395faa4b61a96c8",
		},
	}
	for i, p := range published {
		key := ours.Extract(p.salt, p.given)
		if got := hex.EncodeToString(key[:]); got != p.extracted {
			t.Errorf("%d: extracted %s, want %s", i, got, p.extracted)
		}
		want := unhex(t, p.to)
		if got, e := ours.Expand(key[:], p.info, len(want)); !bytes.Equal(got, want) || e != api.OK {
			t.Errorf("%d: expanded %x, %d, want %x", i, got, e, want)
		}
	}
}

// The salt is the key of the code, what is given its message: turned about they are another one.
func TestExtract(t *testing.T) {
	for n := range 140 {
		salt, given := some(n, n), some(500+n, 139-n)
		want, err := hkdf.Extract(sha256.New, given, salt)
		if err != nil {
			t.Fatal(err)
		}
		if got := ours.Extract(salt, given); got != api.Sum(want) {
			t.Fatalf("Extract(%x, %x) = %x, want %x", salt, given, got, want)
		}
	}
	if ours.Extract([]byte("a"), []byte("b")) == ours.Extract([]byte("b"), []byte("a")) {
		t.Error("salt and what is given turned about have one code")
	}
}

// Each number of bytes: the ends of parts among them, and the most there are, behind which the counter has gone round.
func TestExpandToEachLength(t *testing.T) {
	key, info := some(1, 32), []byte("info")
	longest := expand(t, key, info, 8160)
	for n := range 8161 {
		if n > 700 && n < 7900 && n%97 != 0 {
			continue
		}
		got, e := ours.Expand(key, info, n)
		if !bytes.Equal(got, longest[:n]) || e != api.OK {
			t.Fatalf("Expand to %d bytes: %d bytes, %d, that aren't the beginning of the longest", n, len(got), e)
		}
	}
}

func TestExpandOfKeysAndInfos(t *testing.T) {
	for _, size := range []int{0, 1, 31, 32, 33, 63, 64, 65, 300} {
		for _, room := range []int{0, 1, 22, 23, 54, 55, 64, 1000} {
			key, info := some(size, size), some(100+room, room)
			for _, n := range []int{0, 1, 31, 32, 33, 64, 65, 1000, 8160} {
				if got, e := ours.Expand(key, info, n); !bytes.Equal(got, expand(t, key, info, n)) || e != api.OK {
					t.Fatalf("Expand(%x, %x, %d) = %x, %d", key, info, n, got, e)
				}
			}
		}
	}
}

// The parts as they are told: each the code of the one ahead, the info and its number.
func TestExpandByParts(t *testing.T) {
	key, info := some(7, 40), some(8, 9)
	var want, ahead []byte
	for i := 1; i <= 255; i++ {
		s := mac(key, append(append(bytes.Clone(ahead), info...), byte(i)))
		ahead = s[:]
		want = append(want, ahead...)
	}
	if got, e := ours.Expand(key, info, 8160); !bytes.Equal(got, want) || e != api.OK {
		t.Errorf("Expand to 8160 bytes isn't its parts: %d", e)
	}
}

func TestExpandErrors(t *testing.T) {
	for _, n := range []int{math.MinInt, -8160, -32, -1, 8161, 8192, 8193, 1 << 16, 1 << 32, 1<<32 + 32, math.MaxInt} {
		for _, key := range [][]byte{nil, some(1, 32), some(1, 100)} {
			if got, e := ours.Expand(key, []byte("info"), n); len(got) != 0 || e != api.ErrArg {
				t.Errorf("Expand to %d bytes: %d bytes, %d, want ErrArg", n, len(got), e)
			}
		}
	}
	if got, e := ours.Expand(some(1, 32), nil, 0); len(got) != 0 || e != api.OK {
		t.Errorf("Expand to no bytes: %x, %d", got, e)
	}
}

func labels() []string {
	return []string{
		"", "a", "next", "hello", "session", "from", "to", "N", "0", "\x00", "\x00\x00", "next\x00", "\x00next", "ne\x00xt",
		"größe", "\xff\xfe", strings.Repeat("x", 54), strings.Repeat("x", 64), strings.Repeat("long ", 1000),
	}
}

func TestDerive(t *testing.T) {
	numbers := []uint64{0, 1, 2, 255, 256, 300, 1<<32 - 1, 1 << 32, 1 << 62, 1<<63 - 1, 1 << 63, math.MaxUint64 - 1, math.MaxUint64, 0x0102030405060708}
	keys := []api.Key{{}, {1}, api.Key(some(1, 32)), api.Key(bytes.Repeat([]byte{0xff}, 32))}
	told := map[api.Key]bool{}
	for _, k := range keys {
		for _, label := range labels() {
			for _, n := range numbers {
				info := binary.LittleEndian.AppendUint64(append([]byte(label), 0), n)
				want := api.Key(expand(t, k[:], info, 32))
				if got := ours.Derive(k, label, n); got != want {
					t.Fatalf("Derive(%x, %q, %d) = %x, want %x", k, label, n, got, want)
				}
				if told[want] {
					t.Fatalf("Derive(%x, %q, %d) is another one's key", k, label, n)
				}
				told[want] = true
			}
		}
	}
}

// Derived keys that were reckoned apart from this program: the code of label, 00, the number and 01.
func TestDerivedKeysAreThese(t *testing.T) {
	k := api.Key(count(0, 31))
	derived := []struct {
		label string
		n     uint64
		key   string
	}{
		{"next", 0, "123b9d8df532a63b915d02ea74cec4b40b53430bac3254cb0acb765f6580e461"},
		{"next", 1, "760da0d942ee5f298b5e153ba6c36b1da2f57f2a2c0dd82ac90a1086f5b36029"},
		{"", 0x0102030405060708, "90c78f4601199b05749aa5d6dd9df175e88ad805ed5a1698b32775f871dfcfd6"},
	}
	for _, d := range derived {
		got := ours.Derive(k, d.label, d.n)
		if hex.EncodeToString(got[:]) != d.key {
			t.Errorf("Derive(%x, %q, %d) = %x, want %s", k, d.label, d.n, got, d.key)
		}
	}
}

// What is handed in stays as it is, behind its length too, and isn't read there.
func TestArgumentsStayAsTheyAre(t *testing.T) {
	calls := []func(a, b []byte) []byte{
		func(a, b []byte) []byte { s := ours.Mac(a, b); return s[:] },
		func(a, b []byte) []byte { s := ours.Extract(a, b); return s[:] },
		func(a, b []byte) []byte { to, _ := ours.Expand(a, b, 100); return to },
	}
	for i, call := range calls {
		for _, size := range []int{0, 5, 32, 64, 70} {
			memory := some(9, 400)
			a, b := memory[:size], memory[200:200+size]
			first := bytes.Clone(call(a, b))
			if !bytes.Equal(memory, some(9, 400)) {
				t.Fatalf("call %d wrote into what was handed in", i)
			}
			for j := range memory {
				if j < size || j >= 200 && j < 200+size {
					continue
				}
				memory[j] ^= 0x55
			}
			if again := call(a, b); !bytes.Equal(again, first) {
				t.Fatalf("call %d: what lies behind a length changed the answer", i)
			}
		}
	}
}

// What is answered may be written over, and nothing else changes by it.
func TestExpandAnswersNewMemory(t *testing.T) {
	key, info := some(1, 64), some(2, 40)
	first, _ := ours.Expand(key, info, 33)
	want := bytes.Clone(first)
	first = first[:cap(first)]
	for i := range first {
		first[i] ^= 0xff
	}
	if !bytes.Equal(key, some(1, 64)) || !bytes.Equal(info, some(2, 40)) {
		t.Error("an answer shares memory with what was handed in")
	}
	if again, e := ours.Expand(key, info, 33); !bytes.Equal(again, want) || e != api.OK {
		t.Errorf("the same call answers %x, %d, behind %x", again, e, want)
	}
}
