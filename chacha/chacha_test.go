package chacha_test

import (
	"bytes"
	"crypto/sha256"
	"encoding/binary"
	"encoding/hex"
	"math"
	"math/rand"
	"testing"

	"quaestor/api"
	"quaestor/chacha"
)

// some answers so many bytes, the same ones each time for a seed.
func some(seed, n int) []byte {
	b := make([]byte, n)
	rand.New(rand.NewSource(int64(seed))).Read(b)
	return b
}

// counted is the key 00 01 .. 1f.
func counted() api.Key {
	var k api.Key
	for i := range k {
		k[i] = byte(i)
	}
	return k
}

func unhex(t *testing.T, s string) []byte {
	t.Helper()
	b, err := hex.DecodeString(s)
	if err != nil {
		t.Fatal(err)
	}
	return b
}

// edges are numbers about which the number of a block turns, or goes round.
func edges() []uint32 {
	return []uint32{0, 1, 2, 255, 256, 1 << 16, math.MaxInt32, 1 << 31, math.MaxUint32 - 2, math.MaxUint32 - 1, math.MaxUint32}
}

// stream answers the first bytes of the stream, told block by block.
func stream(k api.Key, nonce api.Nonce, n uint32, size int) []byte {
	var b []byte
	for ; len(b) < size; n++ {
		block := chacha.Block(k, n, nonce)
		b = append(b, block[:]...)
	}
	return b[:size]
}

// RFC 8439, 2.3.2 and A.1.
func TestPublishedBlocks(t *testing.T) {
	published := []struct {
		k     api.Key
		n     uint32
		nonce api.Nonce
		block string
	}{
		{counted(), 1, api.Nonce{3: 9, 7: 0x4a}, "10f1e7e4d13b5915500fdd1fa32071c4c7d1f4c733c068030422aa9ac3d46c4ed2826446079faa0914c2d705d98b02a2b5129cd1de164eb9cbd083e8a2503c4e"},
		{api.Key{}, 0, api.Nonce{}, "76b8e0ada0f13d90405d6ae55386bd28bdd219b8a08ded1aa836efcc8b770dc7da41597c5157488d7724e03fb8d84a376a43b8f41518a11cc387b669b2ee6586"},
		{api.Key{}, 1, api.Nonce{}, "9f07e7be5551387a98ba977c732d080dcb0f29a048e3656912c6533e32ee7aed29b721769ce64e43d57133b074d839d531ed1f28510afb45ace10a1f4b794d6f"},
		{api.Key{31: 1}, 1, api.Nonce{}, "3aeb5224ecf849929b9d828db1ced4dd832025e8018b8160b82284f3c949aa5a8eca00bbb4a73bdad192b5c42f73f2fd4e273644c8b36125a64addeb006c13a0"},
		{api.Key{1: 0xff}, 2, api.Nonce{}, "72d54dfbf12ec44b362692df94137f328fea8da73990265ec1bbbea1ae9af0ca13b25aa26cb4a648cb9b9d1be65b2c0924a66c54d545ec1b7374f4872e99f096"},
		{api.Key{}, 0, api.Nonce{11: 2}, "c2c64d378cd536374ae204b9ef933fcd1a8b2288b3dfa49672ab765b54ee27c78a970e0e955c14f3a88e741b97c286f75f8fc299e8148362fa198a39531bed6d"},
	}
	for _, p := range published {
		block := chacha.Block(p.k, p.n, p.nonce)
		if got := hex.EncodeToString(block[:]); got != p.block {
			t.Errorf("Block(%x, %d, %x) = %s, want %s", p.k, p.n, p.nonce, got, p.block)
		}
	}
}

// Blocks about the ends of the numbers that were reckoned apart from this program.
func TestBlocksOfNumbersAreThese(t *testing.T) {
	blocks := []struct {
		n     uint32
		block string
	}{
		{0, "8adc91fd9ff4f0f51b0fad50ff15d637e40efda206cc52c783a74200503c1582cd9833367d0a54d57d3c9e998f490ee69ca34c1ff9e939a75584c52d690a35d4"},
		{2, "0a88837739d7bf4ef8ccacb0ea2bb9d69d56c394aa351dfda5bf459f0a2e9fe8e721f89255f9c486bf21679c683d4f9c5cf2fa27865526005b06ca374c86af3b"},
		{0x7fffffff, "02c70b58c51c334271e4620ca0592ec09518c06f9b4c89d41ba9bf9c90518f2b946f3568416c381a02cdc045dce4215ad002f237cd35400b6ad1a88ffdcf4fa0"},
		{0x80000000, "4c76f034662332641d91b481c074c7454e969ecae52c92c9df756ba56a7cd932d4750c0d1e0609fc44ee6681cd75bdad5a82f37b3586029e9a89a64726396f47"},
		{0xfffffffe, "bed7e9fb1985cf676d5b3eee7cdd741282a8e6703109423c0c15c551a64d374f8a897645cf2688709dc061487d111682e4be93a05f18df4a1d292f8ca8b5f460"},
		{0xffffffff, "ff2941b8d740f6cbb50936bf997ebd5218cb108dc53f41c64841d0218167430ca03b770ca74ccb642a28194d1dedd2ed13151e25ec5d7faeb6d060bfb7e6b146"},
	}
	for _, x := range blocks {
		block := chacha.Block(counted(), x.n, api.Nonce{3: 9, 7: 0x4a})
		if got := hex.EncodeToString(block[:]); got != x.block {
			t.Errorf("the block of the number %#x = %s, want %s", x.n, got, x.block)
		}
	}
	full := chacha.Block(api.Key(bytes.Repeat([]byte{0xff}, 32)), math.MaxUint32, api.Nonce(bytes.Repeat([]byte{0xff}, 12)))
	const want = "d72b21cfa4b6b0c41d61f62b8a11159c6a4f63bc56c2035796c7ad37811121bbec56d54a530f3a933dd28a50feb23bfaf64f405be985f3718bdf4683e96be749"
	if got := hex.EncodeToString(full[:]); got != want {
		t.Errorf("the block of all bits = %s, want %s", got, want)
	}
}

// The fingerprint of 2000 blocks, of keys, numbers and nonces by a short rule, that was reckoned apart from this program.
func TestManyBlocksAreThese(t *testing.T) {
	sum := sha256.New()
	for seed := range uint64(2000) {
		var drawn [48]byte
		x := seed
		for i := range drawn {
			x = x*6364136223846793005 + 1442695040888963407
			drawn[i] = byte(x >> 56)
		}
		block := chacha.Block(api.Key(drawn[:32]), binary.LittleEndian.Uint32(drawn[32:]), api.Nonce(drawn[36:]))
		sum.Write(block[:])
	}
	const want = "463de43f173bfc2628f05343a2b2d8607be2ab39c85146f9859e677bc296a375"
	if got := hex.EncodeToString(sum.Sum(nil)); got != want {
		t.Errorf("the fingerprint of 2000 blocks = %s, want %s", got, want)
	}
}

// Each bit of the key, the number and the nonce makes another block.
func TestBlockByEachBit(t *testing.T) {
	k, n, nonce := api.Key(some(1, 32)), uint32(77), api.Nonce(some(2, 12))
	told := map[[64]byte]bool{chacha.Block(k, n, nonce): true}
	tell := func(what string, bit int, block [64]byte) {
		if told[block] {
			t.Errorf("bit %d of the %s makes no other block", bit, what)
		}
		told[block] = true
	}
	for bit := range 256 {
		turned := k
		turned[bit/8] ^= 1 << (bit % 8)
		tell("key", bit, chacha.Block(turned, n, nonce))
	}
	for bit := range 32 {
		tell("number", bit, chacha.Block(k, n^1<<bit, nonce))
	}
	for bit := range 96 {
		turned := nonce
		turned[bit/8] ^= 1 << (bit % 8)
		tell("nonce", bit, chacha.Block(k, n, turned))
	}
}

// RFC 8439, 2.4.2 and A.2.
func TestPublishedStreams(t *testing.T) {
	published := []struct {
		k     api.Key
		nonce api.Nonce
		n     uint32
		plain string
		to    string
	}{
		{
			counted(), api.Nonce{7: 0x4a}, 1,
			"Ladies and Gentlemen of the class of '99: If I could offer you only one tip for the future, sunscreen would be it.",
			"6e2e359a2568f98041ba0728dd0d6981e97e7aec1d4360c20a27afccfd9fae0bf91b65c5524733ab8f593dabcd62b3571639d624e65152ab8f530c359f0861d8" +
				"07ca0dbf500d6a6156a38e088a22b65e52bc514d16ccf806818ce91ab77937365af90bbf74a35be6b40b8eedf2785e42874d",
		},
		{
			api.Key(unhex(t, "1c9240a5eb55d38af333888604f6b5f0473917c1402b80099dca5cbc207075c0")), api.Nonce{11: 2}, 42,
			"'Twas brillig, and the slithy toves\nDid gyre and gimble in the wabe:\nAll mimsy were the borogoves,\nAnd the mome raths outgrabe.",
			"62e6347f95ed87a45ffae7426f27a1df5fb69110044c0d73118effa95b01e5cf166d3df2d721caf9b21e5fb14c616871fd84c54f9d65b283196c7fe4f60553eb" +
				"f39c6402c42234e32a356b3e764312a61a5532055716ead6962568f87d3f3f7704c6a8d1bcd1bf4d50d6154b6da731b187b58dfd728afa36757a797ac188d1",
		},
	}
	for _, p := range published {
		if got := hex.EncodeToString(chacha.Xor(p.k, p.nonce, p.n, []byte(p.plain))); got != p.to {
			t.Errorf("Xor of %q = %s, want %s", p.plain, got, p.to)
		}
	}
}

// Each length up to some blocks, from each number: behind the last number the stream goes on with 0.
func TestXorByEachByteOfTheStream(t *testing.T) {
	k, nonce := api.Key(some(3, 32)), api.Nonce(some(4, 12))
	for _, n := range edges() {
		longest := stream(k, nonce, n, 330)
		for size := range 331 {
			b := some(size, size)
			want := make([]byte, size)
			for i := range want {
				want[i] = b[i] ^ longest[i]
			}
			if got := chacha.Xor(k, nonce, n, b); !bytes.Equal(got, want) {
				t.Fatalf("Xor of %d bytes from %d = %x, want %x", size, n, got, want)
			}
			if got := chacha.Xor(k, nonce, n, make([]byte, size)); !bytes.Equal(got, longest[:size]) {
				t.Fatalf("Xor of %d bytes 00 from %d = %x, want %x", size, n, got, longest[:size])
			}
		}
	}
}

// Behind the last number comes 0, and nothing else turns: neither the nonce nor the key.
func TestNumberGoesRound(t *testing.T) {
	k, nonce := api.Key(some(5, 32)), api.Nonce(some(6, 12))
	got := chacha.Xor(k, nonce, math.MaxUint32, make([]byte, 192))
	for i, n := range []uint32{math.MaxUint32, 0, 1} {
		if block := chacha.Block(k, n, nonce); !bytes.Equal(got[64*i:64*i+64], block[:]) {
			t.Errorf("the stream's block %d from the last number isn't that of the number %d", i, n)
		}
	}
}

func TestXorOfManyBytes(t *testing.T) {
	k, nonce := api.Key(some(7, 32)), api.Nonce(some(8, 12))
	for _, size := range []int{4096, 4097, 1<<16 + 5, 1 << 20} {
		if got := chacha.Xor(k, nonce, math.MaxUint32-9, make([]byte, size)); !bytes.Equal(got, stream(k, nonce, math.MaxUint32-9, size)) {
			t.Errorf("Xor of %d bytes 00 isn't the stream", size)
		}
	}
}

func TestXorTwiceIsBack(t *testing.T) {
	for i, n := range edges() {
		k, nonce := api.Key(some(i, 32)), api.Nonce(some(100+i, 12))
		for _, size := range []int{0, 1, 15, 16, 63, 64, 65, 127, 128, 129, 1000, 4096, 100000} {
			b := some(size, size)
			once := chacha.Xor(k, nonce, n, b)
			if size > 8 && bytes.Equal(once, b) {
				t.Fatalf("Xor of %d bytes leaves them as they are", size)
			}
			if got := chacha.Xor(k, nonce, n, once); !bytes.Equal(got, b) {
				t.Fatalf("Xor twice of %d bytes from %d isn't them again", size, n)
			}
		}
	}
}

func TestXorOfNothing(t *testing.T) {
	for _, b := range [][]byte{nil, {}, some(1, 10)[:0]} {
		if got := chacha.Xor(counted(), api.Nonce{}, 5, b); len(got) != 0 {
			t.Errorf("Xor of no bytes = %x", got)
		}
	}
}

// What is handed in stays as it is, behind its length too, and isn't read there; what is answered shares nothing with it.
func TestXorAnswersNewMemory(t *testing.T) {
	k, nonce := counted(), api.Nonce{1, 2, 3}
	for _, size := range []int{0, 1, 64, 70} {
		memory := some(9, 300)
		b := memory[:size]
		got := chacha.Xor(k, nonce, 1, b)
		want := bytes.Clone(got)
		if !bytes.Equal(memory, some(9, 300)) {
			t.Fatalf("Xor of %d bytes wrote into what was handed in", size)
		}
		got = got[:cap(got)]
		for i := range got {
			got[i] ^= 0xff
		}
		if !bytes.Equal(memory, some(9, 300)) {
			t.Fatalf("Xor of %d bytes answers memory that was handed in", size)
		}
		for i := size; i < len(memory); i++ {
			memory[i] ^= 0x55
		}
		if again := chacha.Xor(k, nonce, 1, b); !bytes.Equal(again, want) {
			t.Fatalf("the same call on %d bytes answers %x, behind %x", size, again, want)
		}
	}
	if k != counted() || nonce != (api.Nonce{1, 2, 3}) {
		t.Error("a key or a nonce isn't as it was")
	}
}

// A block that is answered may be written over: the next one is the same.
func TestBlockIsTheSameEachTime(t *testing.T) {
	k, nonce := api.Key(some(1, 32)), api.Nonce(some(2, 12))
	first := chacha.Block(k, 3, nonce)
	want := first
	clear(first[:])
	if again := chacha.Block(k, 3, nonce); again != want {
		t.Errorf("the same call answers %x, behind %x", again, want)
	}
}
