package aead_test

import (
	"bytes"
	"crypto/sha256"
	"encoding/binary"
	"encoding/hex"
	"math/rand"
	"strings"
	"testing"

	"quaestor/aead"
	"quaestor/api"
	"quaestor/chacha"
	"quaestor/poly"
)

// some answers so many bytes, the same ones each time for a seed.
func some(seed, n int) []byte {
	b := make([]byte, n)
	rand.New(rand.NewSource(int64(seed))).Read(b)
	return b
}

// full answers so many bytes ff.
func full(n int) []byte {
	return bytes.Repeat([]byte{0xff}, n)
}

func unhex(t *testing.T, s string) []byte {
	t.Helper()
	b, err := hex.DecodeString(strings.ReplaceAll(s, " ", ""))
	if err != nil {
		t.Fatal(err)
	}
	return b
}

// seal seals what is to be sealed without an error.
func seal(t *testing.T, k api.Key, n api.Nonce, beside, plain []byte) []byte {
	t.Helper()
	sealed, e := aead.Seal(k, n, beside, plain)
	if e != api.OK {
		t.Fatalf("Seal of %d bytes beside %d answers the error %d", len(plain), len(beside), e)
	}
	return sealed
}

// told answers what is sealed, laid byte by byte as the chapter tells it, however long it is.
func told(k api.Key, n api.Nonce, beside, plain []byte) []byte {
	under := make([]byte, len(plain))
	for i := range under {
		block := chacha.Block(k, uint32(1+i/64), n)
		under[i] = plain[i] ^ block[i%64]
	}
	var tagged []byte
	for _, part := range [][]byte{beside, under} {
		tagged = append(tagged, part...)
		for len(tagged)%16 != 0 {
			tagged = append(tagged, 0)
		}
	}
	tagged = binary.LittleEndian.AppendUint64(tagged, uint64(len(beside)))
	tagged = binary.LittleEndian.AppendUint64(tagged, uint64(len(under)))
	first := chacha.Block(k, 0, n)
	tag := poly.Tag(api.Key(first[:32]), tagged)
	return append(under, tag[:]...)
}

// sizes are lengths about those of a tag, a block, and the most that is sealed.
func sizes() []int {
	return []int{0, 1, 2, 15, 16, 17, 31, 32, 33, 63, 64, 65, 127, 128, 129, 1000, 4079, 4080, 4095, 4096}
}

// refuse asks that what is opened is refused with that error, and with nothing beside it.
func refuse(t *testing.T, what string, k api.Key, n api.Nonce, beside, sealed []byte, want api.Errno) {
	t.Helper()
	plain, e := aead.Open(k, n, beside, sealed)
	if e != want || len(plain) != 0 {
		t.Errorf("Open, %s: %d bytes and the error %d, want none and %d", what, len(plain), e, want)
	}
}

// RFC 8439, 2.8.2 and A.5, and the chapter's example.
func TestPublishedSeals(t *testing.T) {
	published := []struct{ key, nonce, beside, plain, sealed string }{
		{
			"808182838485868788898a8b8c8d8e8f909192939495969798999a9b9c9d9e9f",
			"070000004041424344454647",
			"50515253c0c1c2c3c4c5c6c7",
			hex.EncodeToString([]byte("Ladies and Gentlemen of the class of '99: If I could offer you only one tip for the future, sunscreen would be it.")),
			"d31a8d34648e60db7b86afbc53ef7ec2a4aded51296e08fea9e2b5a736ee62d63dbea45e8ca9671282fafb69da92728b1a71de0a9e060b2905d6a5b67ecd3b36" +
				"92ddbd7f2d778b8c9803aee328091b58fab324e4fad675945585808b4831d7bc3ff4def08e4b7a9de576d26586cec64b61161ae10b594f09e26a7e902ecbd0600691",
		},
		{
			"1c9240a5eb55d38af333888604f6b5f0473917c1402b80099dca5cbc207075c0",
			"000000000102030405060708",
			"f33388860000000000004e91",
			hex.EncodeToString([]byte("Internet-Drafts are draft documents valid for a maximum of six months and may be updated, replaced, or obsoleted by " +
				"other documents at any time. It is inappropriate to use Internet-Drafts as reference material or to cite them other than as /“work in progress./”")),
			"64a0861575861af460f062c79be643bd5e805cfd345cf389f108670ac76c8cb24c6cfc18755d43eea09ee94e382d26b0bdb7b73c321b0100d4f03b7f355894cf" +
				"332f830e710b97ce98c8a84abd0b948114ad176e008d33bd60f982b1ff37c8559797a06ef4f0ef61c186324e2b3506383606907b6a7c02b0f9f6157b53c867e4" +
				"b9166c767b804d46a59b5216cde7a4e99040c5a40433225ee282a1b0a06c523eaf4534d7f83fa1155b0047718cbc546a0d072b04b3564eea1b422273f548271a" +
				"0bb2316053fa76991955ebd63159434ecebb4e466dae5a1073a6727627097a1049e617d91d361094fa68f0ff77987130305beaba2eda04df997b714d6c6f2c29" +
				"a6ad5cb4022b02709beead9d67890cbb22392336fea1851f38",
		},
		{strings.Repeat("01", 32), strings.Repeat("02", 12), "03", "0405", "e2194761216f24704fca16849b849c12bc21"},
		{strings.Repeat("01", 32), strings.Repeat("02", 12), "", "", "4ebab2606660ea136cf45bee10bbcd8b"},
		{strings.Repeat("00", 32), strings.Repeat("00", 12), "", "", "4eb972c9a8fb3a1b382bb4d36f5ffad1"},
	}
	for i, p := range published {
		k, n := api.Key(unhex(t, p.key)), api.Nonce(unhex(t, p.nonce))
		beside, plain := unhex(t, p.beside), unhex(t, p.plain)
		sealed := seal(t, k, n, beside, plain)
		if hex.EncodeToString(sealed) != p.sealed {
			t.Errorf("seal %d = %x, want %s", i, sealed, p.sealed)
		}
		opened, e := aead.Open(k, n, beside, unhex(t, p.sealed))
		if e != api.OK || !bytes.Equal(opened, plain) {
			t.Errorf("Open of seal %d = %x, %d, want %x", i, opened, e, plain)
		}
	}
}

// The fingerprint of 2000 seals, of keys, nonces and bytes by a short rule, that was reckoned apart from this program.
func TestManySealsAreThese(t *testing.T) {
	sum := sha256.New()
	for seed := range 2000 {
		drawn := make([]byte, 44+seed%97+seed%301)
		x := uint64(seed)
		for i := range drawn {
			x = x*6364136223846793005 + 1442695040888963407
			drawn[i] = byte(x >> 56)
		}
		beside, plain := drawn[44:44+seed%97], drawn[44+seed%97:]
		sum.Write(seal(t, api.Key(drawn[:32]), api.Nonce(drawn[32:44]), beside, plain))
	}
	const want = "a24b9ae2f02bfda140b15abecb01a8be0edc684e3971d98bbc4b4e121b9b89a2"
	if got := hex.EncodeToString(sum.Sum(nil)); got != want {
		t.Errorf("the fingerprint of 2000 seals = %s, want %s", got, want)
	}
}

// Seals of many bytes, plain or beside, that were reckoned apart from this program.
func TestLongSealsAreThese(t *testing.T) {
	for i, x := range []struct {
		c                   byte
		plain, beside, want []byte
	}{
		{0xff, full(4096), full(5000), unhex(t, "89d0e85451b27fb1d7b91276083883564f616876f2f9e932cf9faaf1a2155f4e")},
		{0, make([]byte, 4096), nil, unhex(t, "91814e922fccf5d07d094c552bc57ebdc130ec447247da5b2611af50f9e4705b")},
		{0xff, nil, full(64), unhex(t, "60e64e61c95ef465f9fe59ad6f5bde787bd1f58fc4cb39a8940dafa2d084a750")},
		{0, make([]byte, 4095), make([]byte, 70000), unhex(t, "9e7c75c63ee4af90b5ade0dddf4fdd8028808d321f5045dcc185eb1fa9bd2833")},
	} {
		k, n := api.Key(bytes.Repeat([]byte{x.c}, 32)), api.Nonce(bytes.Repeat([]byte{x.c}, 12))
		if got := sha256.Sum256(seal(t, k, n, x.beside, x.plain)); !bytes.Equal(got[:], x.want) {
			t.Errorf("the fingerprint of the long seal %d = %x, want %x", i, got, x.want)
		}
	}
}

// Each length of both up to some blocks, so that each number of bytes 00 is laid behind both.
func TestSealsOfEachLength(t *testing.T) {
	for b := range 50 {
		for p := range 50 {
			k, n := api.Key(some(b, 32)), api.Nonce(some(p, 12))
			beside, plain := some(b*50+p, b), some(p*50+b, p)
			if got, want := seal(t, k, n, beside, plain), told(k, n, beside, plain); !bytes.Equal(got, want) {
				t.Fatalf("Seal of %d bytes beside %d = %x, want %x", p, b, got, want)
			}
		}
	}
	for _, size := range sizes() {
		k, n, beside, plain := api.Key(some(1, 32)), api.Nonce(some(2, 12)), some(3, 4096-size), some(4, size)
		if got, want := seal(t, k, n, beside, plain), told(k, n, beside, plain); !bytes.Equal(got, want) {
			t.Fatalf("Seal of %d bytes beside %d = %x, want %x", size, len(beside), got, want)
		}
	}
}

func TestWhatWasSealedIsOpened(t *testing.T) {
	for seed, size := range sizes() {
		for _, plain := range [][]byte{some(seed, size), make([]byte, size), full(size)} {
			for _, beside := range [][]byte{nil, {}, {0}, some(seed, 13), full(300)} {
				k, n := api.Key(some(seed+1, 32)), api.Nonce(some(seed+2, 12))
				sealed := seal(t, k, n, beside, plain)
				if len(sealed) != size+16 {
					t.Fatalf("%d bytes are sealed as %d", size, len(sealed))
				}
				opened, e := aead.Open(k, n, beside, sealed)
				if e != api.OK || !bytes.Equal(opened, plain) {
					t.Fatalf("%d bytes are opened as %d others, with the error %d", size, len(opened), e)
				}
				if again := seal(t, k, n, beside, opened); !bytes.Equal(again, sealed) {
					t.Fatalf("what was opened, of %d bytes, is sealed otherwise", size)
				}
			}
		}
	}
}

// Bytes of which no call of Seal told anything: they are opened if the tag is theirs, and then they are what is sealed of the plain ones.
func TestWhatIsOpenedIsWhatIsSealed(t *testing.T) {
	for seed := range 300 {
		k, n, beside := api.Key(some(seed, 32)), api.Nonce(some(seed+1, 12)), some(seed+2, seed%40)
		sealed := told(k, n, beside, some(seed+3, seed))
		plain, e := aead.Open(k, n, beside, sealed)
		if e != api.OK || !bytes.Equal(plain, some(seed+3, seed)) {
			t.Fatalf("Open of %d bytes answers %x, %d", len(sealed), plain, e)
		}
		if again := seal(t, k, n, beside, plain); !bytes.Equal(again, sealed) {
			t.Fatalf("what was opened, of %d bytes, is sealed as %x, not as %x", len(plain), again, sealed)
		}
		refuse(t, "any bytes", k, n, beside, some(seed+4, 16+seed), api.ErrOpen)
	}
}

func TestSealOfTooManyBytes(t *testing.T) {
	for _, size := range []int{4097, 4098, 4112, 8192, 1 << 20} {
		sealed, e := aead.Seal(api.Key{}, api.Nonce{}, nil, make([]byte, size))
		if e != api.ErrLong || len(sealed) != 0 {
			t.Errorf("Seal of %d bytes answers %d bytes and the error %d", size, len(sealed), e)
		}
	}
	if _, e := aead.Seal(api.Key{}, api.Nonce{}, make([]byte, 1<<20), make([]byte, 4096)); e != api.OK {
		t.Errorf("many bytes beside are refused with the error %d", e)
	}
}

// Bytes of too few or too many are refused for that, whether their tag is theirs or not.
func TestOpenOfTooFewOrTooManyBytes(t *testing.T) {
	k, n, beside := api.Key(some(1, 32)), api.Nonce(some(2, 12)), some(3, 20)
	for size := range 16 {
		refuse(t, "too few", k, n, beside, some(size, size), api.ErrShort)
		refuse(t, "the beginning of a tag", k, n, beside, seal(t, k, n, beside, nil)[:size], api.ErrShort)
	}
	refuse(t, "nil", k, n, beside, nil, api.ErrShort)
	for _, size := range []int{4097, 4098, 5000, 1 << 16} {
		refuse(t, "too many, well sealed", k, n, beside, told(k, n, beside, some(4, size)), api.ErrLong)
		refuse(t, "too many", k, n, beside, make([]byte, size+16), api.ErrLong)
	}
	refuse(t, "the most, with another tag", k, n, beside, make([]byte, 4112), api.ErrOpen)
	refuse(t, "a tag alone that is another", k, n, beside, make([]byte, 16), api.ErrOpen)
}

// Each bit that is turned, of the key, the nonce, the bytes beside or those sealed.
func TestOpenOfWhatWasTurned(t *testing.T) {
	k, n, beside := api.Key(some(1, 32)), api.Nonce(some(2, 12)), some(3, 21)
	for _, size := range []int{0, 1, 16, 45} {
		sealed := seal(t, k, n, beside, some(size, size))
		turned := func(what string, b []byte, bit int, open func()) {
			b[bit/8] ^= 1 << (bit % 8)
			open()
			b[bit/8] ^= 1 << (bit % 8)
		}
		for what, b := range map[string][]byte{"the key": k[:], "the nonce": n[:], "the bytes beside": beside, "what is sealed": sealed} {
			for bit := range 8 * len(b) {
				turned(what, b, bit, func() { refuse(t, "a bit turned of "+what, k, n, beside, sealed, api.ErrOpen) })
			}
		}
		if _, e := aead.Open(k, n, beside, sealed); e != api.OK {
			t.Fatalf("what wasn't turned is refused with the error %d", e)
		}
	}
}

// Bytes that are cut, grown, or moved from beside to sealed: bytes 00 too, which the tag's multiples of 16 have.
func TestOpenOfWhatWasCutOrMoved(t *testing.T) {
	k, n := api.Key(some(1, 32)), api.Nonce(some(2, 12))
	for _, beside := range [][]byte{some(3, 5), make([]byte, 5), some(3, 16), make([]byte, 32)} {
		for _, size := range []int{0, 5, 16, 33} {
			sealed := seal(t, k, n, beside, some(4, size))
			under, tag := sealed[:size], sealed[size:]
			for more := 1; more < 34; more++ {
				zeros := make([]byte, more)
				refuse(t, "bytes 00 behind those beside", k, n, append(bytes.Clone(beside), zeros...), sealed, api.ErrOpen)
				refuse(t, "bytes 00 ahead of the tag", k, n, beside, append(append(bytes.Clone(under), zeros...), tag...), api.ErrOpen)
				refuse(t, "bytes behind the tag", k, n, beside, append(bytes.Clone(sealed), zeros...), api.ErrOpen)
				refuse(t, "bytes ahead", k, n, beside, append(bytes.Clone(zeros), sealed...), api.ErrOpen)
				if more <= len(beside) {
					refuse(t, "the last bytes beside cut", k, n, beside[:len(beside)-more], sealed, api.ErrOpen)
					moved := append(bytes.Clone(beside[len(beside)-more:]), sealed...)
					refuse(t, "the last bytes beside moved", k, n, beside[:len(beside)-more], moved, api.ErrOpen)
				}
				if more <= size {
					refuse(t, "the last bytes cut", k, n, beside, sealed[:len(sealed)-more], api.ErrOpen)
					refuse(t, "the first bytes moved", k, n, append(bytes.Clone(beside), sealed[:more]...), sealed[more:], api.ErrOpen)
				}
			}
		}
	}
}

// What is handed in stays as it is and isn't read behind its length; what is answered shares no memory with it.
func TestMemory(t *testing.T) {
	k, n := api.Key(some(1, 32)), api.Nonce(some(2, 12))
	memory := some(3, 300)
	beside, plain := memory[10:30:50], memory[100:170]
	want := told(k, n, bytes.Clone(beside), bytes.Clone(plain))
	sealed := seal(t, k, n, beside, plain)
	again := seal(t, k, n, beside, plain)
	clear(sealed[:cap(sealed)])
	if !bytes.Equal(memory, some(3, 300)) || !bytes.Equal(again, want) {
		t.Fatal("what Seal answers isn't memory of its own")
	}
	for i := range memory {
		if i >= 30 && i < 100 || i >= 170 {
			memory[i] ^= 0x55
		}
	}
	if got := seal(t, k, n, beside, plain); !bytes.Equal(got, want) {
		t.Fatal("Seal reads behind what is handed in")
	}
	large := append(bytes.Clone(want), some(4, 100)...)
	opened, e := aead.Open(k, n, beside, large[:len(want)])
	if e != api.OK || !bytes.Equal(opened, plain) {
		t.Fatalf("Open answers %x, %d", opened, e)
	}
	clear(opened[:cap(opened)])
	if !bytes.Equal(large, append(bytes.Clone(want), some(4, 100)...)) || !bytes.Equal(plain, some(3, 300)[100:170]) {
		t.Fatal("what Open answers isn't memory of its own")
	}
}

func TestNilIsNoBytes(t *testing.T) {
	k, n := api.Key(some(1, 32)), api.Nonce(some(2, 12))
	want := told(k, n, nil, nil)
	for _, beside := range [][]byte{nil, {}} {
		for _, plain := range [][]byte{nil, {}} {
			if got := seal(t, k, n, beside, plain); !bytes.Equal(got, want) {
				t.Errorf("no bytes are sealed as %x, want %x", got, want)
			}
		}
		if plain, e := aead.Open(k, n, beside, want); len(plain) != 0 || e != api.OK {
			t.Errorf("no bytes are opened as %x, %d", plain, e)
		}
	}
}

// counts are numbers at the edges of what a nonce counts.
func counts() []uint64 {
	l := []uint64{0, 1, 2, 255, 256, 1 << 16, 1<<32 - 1, 1 << 32, 0x0102030405060708, 1<<61 + 1, 1<<62 - 1, 1 << 62}
	for bit := range 62 {
		l = append(l, 1<<bit+3)
	}
	return l
}

func TestNonceOf(t *testing.T) {
	for _, x := range []struct {
		node  uint16
		count uint64
		want  string
	}{
		{0, 0, "0000000000000000 0000 0000"},
		{1, 0, "0000000000000000 0100 0000"},
		{0, 1, "0100000000000000 0000 0000"},
		{0x0a0b, 0x0102030405060708, "0807060504030201 0b0a 0000"},
		{0xffff, 1<<62 - 1, "ffffffffffffff3f ffff 0000"},
		{0xffff, 1 << 62, "0000000000000040 ffff 0000"},
	} {
		got, e := aead.NonceOf(x.node, x.count)
		if e != api.OK || !bytes.Equal(got[:], unhex(t, x.want)) {
			t.Errorf("NonceOf(%d, %d) = %x, %d, want %s", x.node, x.count, got, e, x.want)
		}
	}
}

func TestNonceOfSpentCounts(t *testing.T) {
	for _, count := range []uint64{1<<62 + 1, 1<<62 + 2, 1<<63 - 1, 1 << 63, 1<<64 - 1, 1<<63 + 1<<62} {
		for _, node := range []uint16{0, 1, 0xffff} {
			if n, e := aead.NonceOf(node, count); e != api.ErrSpent || n != (api.Nonce{}) {
				t.Errorf("NonceOf(%d, %d) = %x, %d, want ErrSpent", node, count, n, e)
			}
		}
	}
}

// Unlike nodes or counts have unlike nonces, of which both are told again.
func TestCountOfNonceOf(t *testing.T) {
	told := map[api.Nonce]bool{}
	nodes := []uint16{0, 1, 2, 255, 256, 257, 0x7fff, 0x8000, 0xfffe, 0xffff}
	for _, node := range nodes {
		for _, count := range counts() {
			n, e := aead.NonceOf(node, count)
			if e != api.OK {
				t.Fatalf("NonceOf(%d, %d) answers the error %d", node, count, e)
			}
			if toldNode, toldCount := aead.CountOf(n); toldNode != node || toldCount != count {
				t.Errorf("CountOf(NonceOf(%d, %d)) = %d, %d", node, count, toldNode, toldCount)
			}
			told[n] = true
		}
	}
	unlike := map[uint64]bool{}
	for _, count := range counts() {
		unlike[count] = true
	}
	if len(told) != len(nodes)*len(unlike) {
		t.Errorf("%d nodes and %d counts have %d nonces", len(nodes), len(unlike), len(told))
	}
}

// CountOf takes any nonce: counts that are spent too, and any last bytes.
func TestCountOfAnyNonce(t *testing.T) {
	for seed := range 100 {
		n := api.Nonce(some(seed, 12))
		node, count := aead.CountOf(n)
		if node != binary.LittleEndian.Uint16(n[8:]) || count != binary.LittleEndian.Uint64(n[:]) {
			t.Errorf("CountOf(%x) = %d, %d", n, node, count)
		}
	}
	if node, count := aead.CountOf(api.Nonce(full(12))); node != 0xffff || count != 1<<64-1 {
		t.Errorf("CountOf of bytes ff = %d, %d", node, count)
	}
}

func TestSameCallSameAnswer(t *testing.T) {
	k, n, beside, plain := api.Key(some(1, 32)), api.Nonce(some(2, 12)), some(3, 30), some(4, 700)
	first := seal(t, k, n, beside, plain)
	for seed := range 5 {
		other := seal(t, api.Key(some(seed, 32)), n, nil, plain[seed:])
		refuse(t, "by another key", k, n, beside, other, api.ErrOpen)
		if again := seal(t, k, n, beside, plain); !bytes.Equal(again, first) {
			t.Fatal("the same call has another answer")
		}
		if opened, e := aead.Open(k, n, beside, first); e != api.OK || !bytes.Equal(opened, plain) {
			t.Fatal("the same bytes are opened otherwise")
		}
	}
}
