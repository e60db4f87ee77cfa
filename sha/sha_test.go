package sha_test

import (
	"bytes"
	"crypto/sha256"
	"encoding/binary"
	"encoding/hex"
	"math/rand"
	"slices"
	"testing"

	"quaestor/api"
	"quaestor/sha"
)

// some answers so many bytes, the same ones each time.
func some(n int) []byte {
	b := make([]byte, n)
	rand.New(rand.NewSource(int64(n))).Read(b)
	return b
}

// cut answers parts that b is made of, empty ones among them.
func cut(b []byte, r *rand.Rand) [][]byte {
	var parts [][]byte
	for len(b) > 0 {
		n := r.Intn(min(len(b), 150) + 1)
		parts, b = append(parts, b[:n]), b[n:]
	}
	return append(parts, nil)
}

func TestPublishedFingerprints(t *testing.T) {
	published := []struct{ text, sum string }{
		{"", "e3b0c44298fc1c149afbf4c8996fb92427ae41e4649b934ca495991b7852b855"},
		{"abc", "ba7816bf8f01cfea414140de5dae2223b00361a396177a9cb410ff61f20015ad"},
		{
			"abcdbcdecdefdefgefghfghighijhijkijkljklmklmnlmnomnopnopq",
			"248d6a61d20638b8e5c026930c3e6039a33ce45964ff2167f6ecedd419db06c1",
		},
		{
			"abcdefghbcdefghicdefghijdefghijkefghijklfghijklmghijklmnhijklmnoijklmnopjklmnopqklmnopqrlmnopqrsmnopqrstnopqrstu",
			"cf5b16a778af8380036ce59e7b0492370b249b11e8f07a51afac45037afee9d1",
		},
		{
			string(bytes.Repeat([]byte("a"), 1000000)),
			"cdc76e5c9914fb9281a1c7e284d73e67f1809a48a497200e046d39ccc7112cd0",
		},
	}
	for _, p := range published {
		s := sha.Of([]byte(p.text))
		if got := hex.EncodeToString(s[:]); got != p.sum {
			t.Errorf("the fingerprint of %d bytes is %s, want %s", len(p.text), got, p.sum)
		}
	}
}

// Each length up to some blocks: those among them behind which the number of bits just has room, and just has none.
func TestFingerprintOfEachLength(t *testing.T) {
	for n := range 5*64 + 2 {
		b := some(n)
		for _, fill := range [][]byte{b, make([]byte, n), bytes.Repeat([]byte{0xff}, n), bytes.Repeat([]byte{0x80}, n)} {
			if got, want := sha.Of(fill), sha256.Sum256(fill); got != api.Sum(want) {
				t.Fatalf("the fingerprint of %x is %x, want %x", fill, got, want)
			}
		}
	}
	for _, n := range []int{4095, 4096, 4097, 65535, 65536, 1 << 20} {
		if got, want := sha.Of(some(n)), sha256.Sum256(some(n)); got != api.Sum(want) {
			t.Errorf("the fingerprint of %d bytes is %x, want %x", n, got, want)
		}
	}
}

// Where the parts are cut isn't told: only their bytes count.
func TestPartsLieOneBehindTheOther(t *testing.T) {
	for n := range 200 {
		b := some(n)
		want := api.Sum(sha256.Sum256(b))
		for at := range n + 1 {
			if got := sha.Of(b[:at], b[at:]); got != want {
				t.Fatalf("the fingerprint of %d bytes cut at %d is %x, want %x", n, at, got, want)
			}
		}
	}
	r := rand.New(rand.NewSource(1))
	for n := range 1000 {
		b := some(n)
		if got, want := sha.Of(cut(b, r)...), api.Sum(sha256.Sum256(b)); got != want {
			t.Fatalf("the fingerprint of %d bytes in parts is %x, want %x", n, got, want)
		}
	}
}

func TestPartsWithoutBytes(t *testing.T) {
	none := api.Sum(sha256.Sum256(nil))
	for i, parts := range [][][]byte{nil, {}, {nil}, {{}}, {nil, {}, nil}, make([][]byte, 100)} {
		if got := sha.Of(parts...); got != none {
			t.Errorf("parts %d: %x, want %x", i, got, none)
		}
	}
	abc := api.Sum(sha256.Sum256([]byte("abc")))
	if got := sha.Of(nil, []byte("a"), nil, []byte{}, []byte("bc"), nil); got != abc {
		t.Errorf("the fingerprint of abc in parts is %x, want %x", got, abc)
	}
}

func TestOrderOfPartsCounts(t *testing.T) {
	a, b := []byte("measure"), []byte("seal")
	if sha.Of(a, b) == sha.Of(b, a) {
		t.Error("parts turned about have one fingerprint")
	}
}

// More bits than a number of 32 bits tells.
func TestFingerprintOfVeryManyBytes(t *testing.T) {
	if testing.Short() {
		t.Skip("takes some seconds")
	}
	part := some(1 << 23)
	parts := slices.Repeat([][]byte{part}, 64)
	parts = append(parts, []byte("and more"))
	h := sha256.New()
	for _, p := range parts {
		h.Write(p)
	}
	if got, want := sha.Of(parts...), api.Sum(h.Sum(nil)); got != want {
		t.Errorf("the fingerprint of 2^29 bytes and some is %x, want %x", got, want)
	}
}

// What is handed in stays as it is, behind its length too, and isn't read there.
func TestPartsStayAsTheyAre(t *testing.T) {
	memory := some(500)
	parts := [][]byte{memory[:70:80], memory[100:101], nil, memory[200:330]}
	before := [][]byte{parts[0], parts[1], parts[2], parts[3]}
	first := sha.Of(parts[:3]...)
	if !bytes.Equal(memory, some(500)) {
		t.Fatal("bytes that were handed in are others")
	}
	for i, p := range parts {
		if len(p) != len(before[i]) || len(p) > 0 && &p[0] != &before[i][0] {
			t.Fatalf("part %d that was handed in is another one", i)
		}
	}
	parts[3], memory[75], memory[101] = nil, memory[75]+1, memory[101]+1
	if again := sha.Of(parts[:3]...); again != first {
		t.Errorf("what lies behind a length changed the fingerprint from %x to %x", first, again)
	}
}

func TestShort(t *testing.T) {
	shorts := []struct {
		s api.Sum
		n uint64
	}{
		{api.Sum{}, 0},
		{api.Sum{1}, 1},
		{api.Sum{1, 2, 3, 4, 5, 6, 7, 8, 9, 10}, 0x0807060504030201},
		{api.Sum{0, 0, 0, 0, 0, 0, 0, 0x80}, 1 << 63},
		{api.Sum{0, 0, 0, 0, 0, 0, 0, 0, 1}, 0},
		{api.Sum(bytes.Repeat([]byte{0xff}, 32)), 1<<64 - 1},
		{sha.Of([]byte("abc")), 0xeacf018fbf1678ba},
	}
	for _, x := range shorts {
		if got := sha.Short(x.s); got != x.n {
			t.Errorf("Short(%x) = %#x, want %#x", x.s, got, x.n)
		}
	}
	for i := range 100 {
		s := api.Sum(some(32 + i)[i:])
		if got, want := sha.Short(s), binary.LittleEndian.Uint64(s[:]); got != want {
			t.Errorf("Short(%x) = %#x, want %#x", s, got, want)
		}
	}
}
