package box_test

import (
	"bytes"
	"crypto/sha256"
	"encoding/hex"
	"math"
	"math/rand"
	"runtime"
	"slices"
	"strings"
	"testing"

	"quaestor/aead"
	"quaestor/api"
	"quaestor/box"
	"quaestor/delta"
)

// long answers a name of so many bytes.
func long(n int) string { return strings.Repeat("n", n) }

// up answers so many bytes, each one above the one ahead.
func up(from byte, n int) []byte {
	b := make([]byte, n)
	for i := range b {
		b[i] = from + byte(i)
	}
	return b
}

// each answers so many bytes that are all the same.
func each(c byte, n int) []byte { return bytes.Repeat([]byte{c}, n) }

// row answers so many pieces of one series.
func row(series string, many int) []api.Piece {
	var l []api.Piece
	for i := range many {
		l = append(l, api.Piece{Series: series, T: int64(i), V: -int64(i), Id: api.Id{N: uint64(i * i), Node: uint16(i)}})
	}
	return l
}

// keyOne and nonceOne are those of the examples.
var (
	keyOne   = api.Key(each(1, 32))
	nonceOne = api.Nonce(each(2, 12))
)

// seals answers the box of what is to be sealed without an error.
func seals(t *testing.T, k api.Key, n api.Nonce, tenant string, epoch uint32, l []api.Piece) api.Box {
	t.Helper()
	b, e := box.Seal(k, n, tenant, epoch, l)
	if e != api.OK {
		t.Fatalf("Seal for %q of %d pieces answers the error %d", tenant, len(l), e)
	}
	if b.Tenant != tenant || b.Epoch != epoch || b.Nonce != n || len(b.Body) != delta.Room(l)+16 {
		t.Fatalf("Seal for %q, %d of %d pieces = %v", tenant, epoch, len(l), b)
	}
	return b
}

// opens asks which pieces a box is opened as.
func opens(t *testing.T, what string, k api.Key, b api.Box, want []api.Piece) {
	t.Helper()
	for range 2 { // the same answer each time
		if l, e := box.Open(k, b); e != api.OK || !slices.Equal(l, want) {
			t.Fatalf("Open, %s: %v, %d, want %v", what, l, e, want)
		}
	}
}

// closed asks that a box is refused with that error, and with nothing beside it.
func closed(t *testing.T, what string, k api.Key, b api.Box, want api.Errno) {
	t.Helper()
	if l, e := box.Open(k, b); e != want || len(l) != 0 {
		t.Errorf("Open, %s: %d pieces and %d, want none and %d", what, len(l), e, want)
	}
}

// refuses asks that pieces are refused with that error, and with nothing beside it.
func refuses(t *testing.T, what, tenant string, l []api.Piece, want api.Errno) {
	t.Helper()
	if b, e := box.Seal(keyOne, nonceOne, tenant, 1, l); e != want || !same(b, api.Box{}) {
		t.Errorf("Seal, %s: %v, %d, want nothing and %d", what, b, e, want)
	}
}

// unwraps asks what a wrapped key is unwrapped as; beside an error nothing.
func unwraps(t *testing.T, what string, k api.Key, n api.Nonce, tenant string, epoch uint32, b []byte, want api.Key, wantE api.Errno) {
	t.Helper()
	for range 2 {
		if key, e := box.Unwrap(k, n, tenant, epoch, b); e != wantE || key != want {
			t.Errorf("Unwrap, %s = %x, %d, want %x, %d", what, key, e, want, wantE)
		}
	}
}

// spoils goes through each bit of some bytes, turned.
func spoils(b []byte, look func()) {
	for bit := range 8 * len(b) {
		b[bit/8] ^= 1 << (bit % 8)
		look()
		b[bit/8] ^= 1 << (bit % 8)
	}
}

func TestExample(t *testing.T) {
	for _, l := range [][]api.Piece{nil, {}} {
		b := seals(t, keyOne, nonceOne, "t", 1, l)
		if len(b.Body) != 20 {
			t.Errorf("a box of no pieces has a Body of %d bytes", len(b.Body))
		}
		opens(t, "no pieces", keyOne, b, nil)
	}
}

// Boxes that were reckoned apart from this program: their forms, and what is in them.
func TestBoxesAreThese(t *testing.T) {
	for _, x := range []struct {
		k      api.Key
		n      api.Nonce
		tenant string
		epoch  uint32
		l      []api.Piece
		form   string
	}{
		{keyOne, nonceOne, "t", 1, nil, "01740100000002020202020202020202020214e71cf22e3a4101e7ce55d3a4c7bf6d3869998eb5"},
		{keyOne, nonceOne, "t", 1, []api.Piece{{Series: "a", T: 5, V: -1, Id: api.Id{N: 3, Node: 1}}},
			"0174010000000202020202020202020202023bef1cf32feca2e2db722ce9f9d38be4298cb36c0d83aa7dd314841bbdf59644dcd313f9f53b0e06b9d6cb3fe6bcca90d3efab8ff3dcb443c6e2ea9f"},
		{api.Key(up(0x80, 32)), api.Nonce(up(0x40, 12)), "tenant-9", 0xfffefdfc, []api.Piece{
			{Series: "cpu", T: 4, V: 10, Id: api.Id{N: 1}}, {Series: "cpu", T: 9, V: 11, Id: api.Id{N: 2, Node: 1}},
			{Series: "mem{host=a}", T: math.MinInt64, V: math.MaxInt64, Id: api.Id{N: math.MaxUint64, Node: math.MaxUint16}},
		}, "0874656e616e742d39fcfdfeff404142434445464748494a4b8e0160805039fd694ef721bb1a71c4db05671618852fbbb9b9e2b4d461c54af1893fc7e14dc599b5e55b56c535247dedcd0fb02b2acaa8b8b108efa616f2e4fea4b06c7b1112" +
			"dcf5dfdc75a46f6fe4d00521065116cb7803fdc4db5097ffa1c02878298e99bcb0f851a1de4ceb71563c0ecbb81385f8eab84479bbb9eb99860b038d6354f16d007a853d62e66bf226b2"},
		{api.Key(up(0, 32)), api.Nonce(up(0xf8, 12)), "abcdefghijklmnopqrstuvwx", 0, []api.Piece{{Series: "\x00\xff", T: -1}},
			"186162636465666768696a6b6c6d6e6f70717273747576777800000000f8f9fafbfcfdfeff000102033cd9dfa551219f66b52b7c1a28f1c6e7fbd169a35b7111e144f94f8a2cb7a975261a64e0d07a2b06c35ea2d8950ad04965b679e2ef7076a081f903924b"},
	} {
		b := seals(t, x.k, x.n, x.tenant, x.epoch, x.l)
		form := box.Put(nil, b)
		if hex.EncodeToString(form) != x.form {
			t.Errorf("the form for %s = %x, want %s", x.tenant, form, x.form)
		}
		want, _ := hex.DecodeString(x.form)
		read, used, e := box.Get(want)
		if e != api.OK || used != len(want) || !same(read, b) {
			t.Errorf("Get = %v, %d, %d, want %v", read, used, e, b)
		}
		opens(t, "as reckoned", x.k, read, x.l)
		holds(t, "as reckoned", x.k, b)
	}
}

// The same short rule that the fingerprints were reckoned by, apart from this program.
type draws uint64

func (d *draws) one() byte {
	*d = *d*6364136223846793005 + 1442695040888963407
	return byte(*d >> 56)
}

func (d *draws) some(n int) []byte {
	b := make([]byte, n)
	for i := range b {
		b[i] = d.one()
	}
	return b
}

func (d *draws) number(width int) (n uint64) {
	for i := range width {
		n |= uint64(d.one()) << (8 * i)
	}
	return n
}

// pieces answers what the box of a seed has.
func (d *draws) pieces(seed int) []api.Piece {
	var l []api.Piece
	for i := range seed % 4 {
		series := string(rune('A'+i)) + string(d.some(seed%70))
		for range 1 + (seed+i)%5 {
			l = append(l, api.Piece{Series: series, T: int64(d.number(8))})
		}
	}
	slices.SortFunc(l, func(a, b api.Piece) int {
		if n := strings.Compare(a.Series, b.Series); n != 0 {
			return n
		}
		if a.T < b.T {
			return -1
		}
		return 1
	})
	for i := range l {
		l[i].V, l[i].Id.N = int64(d.number(8)), d.number(8)
		l[i].Id.Node = uint16(d.number(2))
	}
	return l
}

func TestManyBoxesAreThese(t *testing.T) {
	boxes, wraps := sha256.New(), sha256.New()
	for seed := range 1000 {
		d := draws(seed)
		k, n, key := api.Key(d.some(32)), api.Nonce(d.some(12)), api.Key(d.some(32))
		epoch := uint32(d.number(4))
		tenant := d.some(1 + seed%24)
		for i, c := range tenant {
			tenant[i] = "abcdefghijklmnopqrstuvwxyz0123456789-"[c%37]
		}
		l := d.pieces(seed)
		b := seals(t, k, n, string(tenant), epoch, l)
		opens(t, "many", k, b, l)
		boxes.Write(box.Put(nil, b))
		wrapped := box.Wrap(k, n, string(tenant), epoch, key)
		unwraps(t, "many", k, n, string(tenant), epoch, wrapped, key, api.OK)
		wraps.Write(wrapped)
	}
	if got := hex.EncodeToString(boxes.Sum(nil)); got != "abecb679b98ff575bc935cf6f6a27ab145230351c4af51345aaae88880746f55" {
		t.Errorf("the fingerprint of 1000 boxes = %s", got)
	}
	if got := hex.EncodeToString(wraps.Sum(nil)); got != "ba317786b0f51024173ba0f896738346bc16785fea5e8ec07383b5571451543a" {
		t.Errorf("the fingerprint of 1000 wrapped keys = %s", got)
	}
}

// The greatest room: pieces of MaxPlain bytes.
func TestGreatestBox(t *testing.T) {
	l := row(strings.Repeat("s", 22), 127)
	b := seals(t, keyOne, nonceOne, "x", 7, l)
	if len(b.Body) != 4112 {
		t.Errorf("the greatest Body has %d bytes", len(b.Body))
	}
	form := box.Put(nil, b)
	sum := sha256.Sum256(form)
	if got := hex.EncodeToString(sum[:]); len(form) != 4132 || got != "0190b74f539430d84262ab8486b56ceeb2ae22d94fa621520f06593a98348a73" {
		t.Errorf("the form of the greatest box: %d bytes, with the fingerprint %s", len(form), got)
	}
	opens(t, "the greatest", keyOne, b, l)
	holds(t, "the greatest", keyOne, b)
}

// A name has 1 to 24 bytes: a to z, 0 to 9 and -, wherever in it.
func TestName(t *testing.T) {
	names := func(s string, want bool) {
		t.Helper()
		if got := box.Name(s); got != want {
			t.Errorf("Name(%.100q) = %v", s, got)
		}
		wantE := api.OK
		if !want {
			wantE = api.ErrArg
		}
		if e := box.Check(api.Box{Tenant: s, Body: make([]byte, 16)}); e != wantE {
			t.Errorf("Check of the tenant %.100q = %d, want %d", s, e, wantE)
		}
	}
	for n := range 600 {
		names(long(n), n >= 1 && n <= 24)
		names(strings.Repeat("-", n), n >= 1 && n <= 24)
	}
	for c := range 256 {
		one := string([]byte{byte(c)})
		good := strings.Contains("abcdefghijklmnopqrstuvwxyz0123456789-", one)
		for i := range 24 {
			names(long(i)+one+long(23-i), good)
			names(long(i)+one, good)
			names(one+long(i), good)
		}
	}
	for _, s := range []string{"é", "aé", "ａ", "٣", "a b", " a", "a ", "a\x00", "A", "aB", "a_b", "a.b", "a/b", "a–b", "a\n", long(1 << 20)} {
		names(s, false)
	}
	for _, s := range []string{"-", "--", "0", "9", "a", "z", "a-0", "-a", "a-", "tenant-of-24-bytes-------"[:24]} {
		names(s, true)
	}
}

// A tenant that is no name is told ahead of what layer 14 tells.
func TestSealErrors(t *testing.T) {
	turned := []api.Piece{{Series: "a", T: 2}, {Series: "a", T: 1}}
	for _, tenant := range []string{"", long(25), "A", "a b", "é", "t\x00"} {
		refuses(t, "no name", tenant, nil, api.ErrArg)
		refuses(t, "no name, too many pieces", tenant, row("a", 257), api.ErrArg)
		refuses(t, "no name, pieces turned about", tenant, turned, api.ErrArg)
	}
	for _, tenant := range []string{"t", long(24)} {
		refuses(t, "pieces turned about", tenant, turned, api.ErrArg)
		refuses(t, "no series", tenant, row("", 1), api.ErrArg)
		refuses(t, "a long series", tenant, row(strings.Repeat("s", 201), 1), api.ErrArg)
		refuses(t, "one time twice", tenant, []api.Piece{{Series: "a", T: 2}, {Series: "a", T: 2, Id: api.Id{N: 1}}}, api.ErrArg)
		refuses(t, "too many pieces", tenant, row("a", 257), api.ErrLong)
		refuses(t, "too much room", tenant, row("a", 128), api.ErrLong)
		refuses(t, "room for one byte too much", tenant, row(strings.Repeat("s", 23), 127), api.ErrLong)
		refuses(t, "very many pieces", tenant, make([]api.Piece, 100000), api.ErrLong)
	}
}

// What is beside hangs on the kind, the tenant and the epoch: none of them can be another one, nor the key, the nonce, or the body.
func TestOpenOfWhatWasTurned(t *testing.T) {
	for _, l := range [][]api.Piece{nil, row("a", 1), row("cpu", 3)} {
		k := api.Key(up(9, 32))
		b := seals(t, k, api.Nonce(up(70, 12)), "ab", 0x01020304, l)
		look := func(what string) func() { return func() { t.Helper(); closed(t, what, k, b, api.ErrOpen) } }
		spoils(k[:], look("another key"))
		spoils(b.Nonce[:], look("another nonce"))
		spoils(b.Body, look("another body"))
		for bit := range 32 {
			other := b
			other.Epoch ^= 1 << bit
			closed(t, "another epoch", k, other, api.ErrOpen)
		}
		for _, tenant := range []string{"a", "b", "ba", "ac", "bb", "abb", "aab", "ab-", "-ab", "ab0", "0ab"} {
			other := b
			other.Tenant = tenant
			closed(t, "another tenant", k, other, api.ErrOpen)
		}
		for n := 16; n < len(b.Body)+40; n++ {
			other := b
			other.Body = append(bytes.Clone(b.Body[:min(n, len(b.Body))]), make([]byte, max(n-len(b.Body), 0))...)
			if n != len(b.Body) {
				closed(t, "cut or grown", k, other, api.ErrOpen)
			}
		}
		opens(t, "as it was", k, b, l)
	}
}

// A box that may not be is refused for that, whether it was sealed or not.
func TestOpenOfWhatMayNotBe(t *testing.T) {
	sealed := func(tenant string, plain []byte) api.Box {
		body, e := aead.Seal(keyOne, nonceOne, tellBeside("B", tenant, 1), plain)
		if e != api.OK {
			t.Fatal(e)
		}
		return api.Box{Tenant: tenant, Epoch: 1, Nonce: nonceOne, Body: body}
	}
	none := []byte{1, 0, 0, 0}
	opens(t, "none", keyOne, sealed("t", none), nil)
	for _, tenant := range []string{"", long(25), "A", "a b", "é", "t\x00", long(1 << 16)} {
		closed(t, "no name", keyOne, sealed(tenant, none), api.ErrArg)
	}
	for n := range 16 {
		closed(t, "too few bytes", keyOne, api.Box{Tenant: "t", Epoch: 1, Nonce: nonceOne, Body: sealed("t", none).Body[:n]}, api.ErrArg)
	}
	for _, n := range []int{4113, 4114, 5000, 1 << 20} {
		closed(t, "too many bytes", keyOne, api.Box{Tenant: "t", Epoch: 1, Nonce: nonceOne, Body: make([]byte, n)}, api.ErrArg)
	}
	closed(t, "the most bytes", keyOne, api.Box{Tenant: "t", Epoch: 1, Nonce: nonceOne, Body: make([]byte, 4112)}, api.ErrOpen)
	closed(t, "the least bytes", keyOne, api.Box{Tenant: "t", Epoch: 1, Nonce: nonceOne, Body: make([]byte, 16)}, api.ErrOpen)
	closed(t, "nothing", keyOne, api.Box{}, api.ErrArg)
	// What was sealed of bytes that aren't laid pieces.
	for _, x := range []struct {
		what  string
		plain []byte
		want  api.Errno
	}{
		{"no bytes", nil, api.ErrShort},
		{"one byte", []byte{1}, api.ErrShort},
		{"fewer bytes than are told", []byte{2, 0, 0}, api.ErrShort},
		{"no form", []byte{0, 0, 0, 0}, api.ErrForm},
		{"no room", []byte{1, 0, 0}, api.ErrForm},
		{"too much room", []byte{1, 0, 0, 0, 0}, api.ErrForm},
		{"the most bytes", make([]byte, 4096), api.ErrForm},
		{"the most bytes ff", each(0xff, 4096), api.ErrShort},
		{"a key", make([]byte, 32), api.ErrForm},
	} {
		closed(t, x.what, keyOne, sealed("t", x.plain), x.want)
		holds(t, x.what, keyOne, sealed("t", x.plain))
	}
}

// What was sealed as of one kind isn't opened as of the other.
func TestKindsAreToldApart(t *testing.T) {
	laid := append([]byte{9, 0, 1, 1, 'a', 1, 10, 1, 3, 1, 0}, make([]byte, 32)...)
	for _, x := range []struct {
		kind string
		want api.Errno
	}{{"B", api.OK}, {"K", api.ErrOpen}, {"b", api.ErrOpen}, {"", api.ErrOpen}, {"\x00", api.ErrOpen}, {"BB", api.ErrOpen}} {
		body, _ := aead.Seal(keyOne, nonceOne, tellBeside(x.kind, "t", 1), laid)
		if _, e := box.Open(keyOne, api.Box{Tenant: "t", Epoch: 1, Nonce: nonceOne, Body: body}); e != x.want {
			t.Errorf("Open of the kind %q = %d, want %d", x.kind, e, x.want)
		}
		key := api.Key(up(3, 32))
		wrapped, _ := aead.Seal(keyOne, nonceOne, tellBeside(x.kind, "t", 1), key[:])
		if x.kind == "K" {
			unwraps(t, "the kind K", keyOne, nonceOne, "t", 1, wrapped, key, api.OK)
		} else {
			unwraps(t, "the kind "+x.kind, keyOne, nonceOne, "t", 1, wrapped, api.Key{}, api.ErrOpen)
		}
	}
	wrapped := box.Wrap(keyOne, nonceOne, "t", 1, api.Key{1, 0, 0, 0})
	closed(t, "a wrapped key", keyOne, api.Box{Tenant: "t", Epoch: 1, Nonce: nonceOne, Body: wrapped}, api.ErrOpen)
}

// A body has 16 to 4112 bytes, whichever; nothing else but the tenant is looked at.
func TestCheck(t *testing.T) {
	for _, n := range []int{0, 1, 2, 14, 15, 16, 17, 18, 20, 127, 128, 1000, 4095, 4096, 4097, 4110, 4111, 4112, 4113, 4114, 5000, 1 << 20} {
		want := api.OK
		if n < 16 || n > 4112 {
			want = api.ErrArg
		}
		for _, c := range []byte{0, 1, 0x80, 0xff} {
			b := api.Box{Tenant: "t", Epoch: uint32(c) << 24, Nonce: api.Nonce(each(c, 12)), Body: each(c, n)}
			if e := box.Check(b); e != want {
				t.Errorf("Check of a body of %d bytes %x = %d, want %d", n, c, e, want)
			}
			holds(t, "a body's length", keyOne, b)
			b.Tenant = ""
			holds(t, "a body's length, and no tenant", keyOne, b)
		}
	}
	if e := box.Check(api.Box{Tenant: "t"}); e != api.ErrArg {
		t.Errorf("Check of no body = %d", e)
	}
	if e := box.Check(api.Box{}); e != api.ErrArg {
		t.Errorf("Check of nothing = %d", e)
	}
}

func TestPut(t *testing.T) {
	b := api.Box{Tenant: "t-1", Epoch: 0x0a0b0c0d, Nonce: api.Nonce(up(1, 12)), Body: up(0xa0, 16)}
	want := "03742d31" + "0d0c0b0a" + "0102030405060708090a0b0c" + "10" + "a0a1a2a3a4a5a6a7a8a9aaabacadaeaf"
	for _, to := range []string{"", "ff", "0001", strings.Repeat("ab", 1000)} {
		front, _ := hex.DecodeString(to)
		if got := hex.EncodeToString(box.Put(front, b)); got != to+want {
			t.Errorf("Put behind %.20s = %s, want %s", to, got, to+want)
		}
		if got := hex.EncodeToString(box.Put(front, api.Box{Tenant: "t-1", Body: up(0, 15)})); got != to {
			t.Errorf("Put of a box that may not be, behind %.20s = %s", to, got)
		}
	}
	if got := box.Put(nil, api.Box{}); len(got) != 0 {
		t.Errorf("Put of nothing = %x", got)
	}
	b.Tenant, b.Body = long(24), make([]byte, 4112)
	want = "18" + hex.EncodeToString([]byte(long(24))) + "0d0c0b0a" + "0102030405060708090a0b0c" + "9020" + strings.Repeat("00", 4112)
	if got := hex.EncodeToString(box.Put(nil, b)); got != want {
		t.Errorf("Put of the longest = %.100s", got)
	}
}

// Some boxes, one behind the other: each is read with as many bytes as it has.
func TestGetOneBehindTheOther(t *testing.T) {
	var all []api.Box
	for i := range 40 {
		all = append(all, api.Box{Tenant: long(1 + i%24), Epoch: uint32(i) << (i % 32), Nonce: api.Nonce(up(byte(i), 12)), Body: up(byte(i), 16+i*100)})
	}
	var b []byte
	for _, one := range all {
		b = box.Put(b, one)
		b = box.Put(b, api.Box{Tenant: one.Tenant}) // may not be, and adds nothing
	}
	for i, one := range all {
		got, used, e := box.Get(b)
		if e != api.OK || used != len(tellForm(one)) || !box.Same(got, one) {
			t.Fatalf("Get of the box %d: %v, %d, %d", i, got, used, e)
		}
		b = b[used:]
	}
	if len(b) != 0 {
		t.Errorf("%d bytes are left", len(b))
	}
	if got, used, e := box.Get(b); e != api.ErrShort || used != 0 || !same(got, api.Box{}) {
		t.Errorf("Get of no bytes = %v, %d, %d", got, used, e)
	}
}

// Each cut is too short, of boxes that may be and of ones that may not.
func TestGetOfEachCut(t *testing.T) {
	for _, b := range []api.Box{
		{Tenant: "t", Body: make([]byte, 16)},
		{Tenant: long(24), Epoch: math.MaxUint32, Nonce: api.Nonce(each(0xff, 12)), Body: each(0xff, 300)},
		{},
		{Tenant: "", Body: make([]byte, 20)},
		{Tenant: "NO", Body: make([]byte, 15)},
		{Tenant: long(25), Body: make([]byte, 200)},
		{Tenant: long(300), Body: make([]byte, 5)},
		{Tenant: "t", Body: make([]byte, 4113)},
	} {
		form := tellForm(b)
		for n := range form {
			if e := gets(t, "cut", form[:n:n]); e != api.ErrShort {
				t.Errorf("Get of the first %d bytes = %d, want ErrShort", n, e)
			}
		}
		want := api.OK
		if tellCheck(b) != api.OK {
			want = api.ErrForm
		}
		if e := gets(t, "whole", form); e != want {
			t.Errorf("Get of %.60x = %d, want %d", form, e, want)
		}
		for n := range 5 {
			if e := gets(t, "with more behind", append(bytes.Clone(form), each(0xff, n)...)); e != want {
				t.Errorf("Get of %.60x with %d bytes behind = %d, want %d", form, n, e, want)
			}
		}
	}
}

// Each byte of a form as each other one; and each two of those that tell how long something is, as some that mean much.
func TestGetOfEachByte(t *testing.T) {
	b := api.Box{Tenant: "ab", Epoch: 5, Nonce: api.Nonce(up(1, 12)), Body: make([]byte, 130)}
	form := append(tellForm(b), each(1, 50)...)
	for i := range 30 {
		for c := range 256 {
			x := bytes.Clone(form)
			x[i] = byte(c)
			gets(t, "another byte", x)
		}
	}
	some := []byte{0, 1, 2, 3, 15, 16, 24, 25, 0x61, 0x7f, 0x80, 0x81, 0x82, 0xfe, 0xff}
	for _, i := range []int{0, 1, 2, 3, 18, 19, 20, 21, 22} {
		for _, j := range []int{0, 1, 2, 3, 18, 19, 20, 21, 22} {
			for _, c := range some {
				for _, d := range some {
					x := bytes.Clone(form)
					x[i], x[j] = c, d
					gets(t, "two other bytes", x)
				}
			}
		}
	}
}

// From the front: the first of what is no short form and of what ends too early; then what may not be.
func TestGetOrderOfErrors(t *testing.T) {
	tooGreat := append(each(0xff, 9), 2)
	greatest := append(each(0xff, 9), 1)
	half := append(each(0x80, 9), 1) // 2^63
	middle := make([]byte, 16)
	short := func(n int, b ...byte) []byte { return append(tellShort(n), b...) }
	for _, x := range []struct {
		what  string
		parts [][]byte
		want  api.Errno
	}{
		{"nothing", nil, api.ErrShort},
		{"an open short form", [][]byte{{0x80}}, api.ErrShort},
		{"a short form with 00", [][]byte{{0x80, 0}}, api.ErrForm},
		{"a short form with 00, and all behind", [][]byte{{0x81, 0, 'a'}, middle, short(16), middle}, api.ErrForm},
		{"nine open bytes", [][]byte{each(0xff, 9)}, api.ErrShort},
		{"ten open bytes", [][]byte{each(0xff, 10)}, api.ErrForm},
		{"a tenth byte above 1", [][]byte{tooGreat}, api.ErrForm},
		{"the greatest tenant", [][]byte{greatest}, api.ErrShort},
		{"the greatest tenant, and more", [][]byte{greatest, each('a', 100)}, api.ErrShort},
		{"a tenant of 2^63 bytes", [][]byte{half, each('a', 100)}, api.ErrShort},
		{"no tenant, no more", [][]byte{{0}}, api.ErrShort},
		{"no tenant, but all behind", [][]byte{{0}, middle, short(16), middle}, api.ErrForm},
		{"a tenant that ends early", [][]byte{short(3, 'a', 'b')}, api.ErrShort},
		{"a tenant alone", [][]byte{short(2, 'a', 'b')}, api.ErrShort},
		{"no name, an epoch that ends early", [][]byte{short(2, 'A', 'B'), middle[:3]}, api.ErrShort},
		{"a nonce that ends early", [][]byte{short(1, 'a'), middle[:15]}, api.ErrShort},
		{"no body", [][]byte{short(1, 'a'), middle}, api.ErrShort},
		{"an open short form of a body", [][]byte{short(1, 'a'), middle, {0x90}}, api.ErrShort},
		{"a body's short form with 00", [][]byte{short(1, 'a'), middle, {0x90, 0}, middle}, api.ErrForm},
		{"a body's tenth byte above 1", [][]byte{short(1, 'a'), middle, tooGreat}, api.ErrForm},
		{"no name, and a body's short form with 00", [][]byte{short(1, 'A'), middle, {0x90, 0}, middle}, api.ErrForm},
		{"no name, and the greatest body", [][]byte{short(1, 'A'), middle, greatest, middle}, api.ErrShort},
		{"the greatest body", [][]byte{short(1, 'a'), middle, greatest, middle}, api.ErrShort},
		{"a body of 2^63 bytes", [][]byte{short(1, 'a'), middle, half, middle}, api.ErrShort},
		{"a body of 17 bytes, 16 there", [][]byte{short(1, 'a'), middle, short(17), middle}, api.ErrShort},
		{"a body of 16 bytes", [][]byte{short(1, 'a'), middle, short(16), middle}, api.OK},
		{"a body of 15 bytes", [][]byte{short(1, 'a'), middle, short(15), middle}, api.ErrForm},
		{"a body of no bytes", [][]byte{short(1, 'a'), middle, short(0), middle}, api.ErrForm},
		{"a body of 4112 bytes", [][]byte{short(1, 'a'), middle, short(4112), make([]byte, 4112)}, api.OK},
		{"a body of 4113 bytes", [][]byte{short(1, 'a'), middle, short(4113), make([]byte, 4113)}, api.ErrForm},
		{"a body of 4113 bytes, 4112 there", [][]byte{short(1, 'a'), middle, short(4113), make([]byte, 4112)}, api.ErrShort},
		{"a long body", [][]byte{short(1, 'a'), middle, short(1 << 22), make([]byte, 1<<22)}, api.ErrForm},
		{"a tenant of 24 bytes", [][]byte{short(24), []byte(long(24)), middle, short(16), middle}, api.OK},
		{"a tenant of 25 bytes", [][]byte{short(25), []byte(long(25)), middle, short(16), middle}, api.ErrForm},
		{"a tenant of 25 bytes, a body that ends early", [][]byte{short(25), []byte(long(25)), middle, short(16), middle[:15]}, api.ErrShort},
		{"a long tenant", [][]byte{short(1 << 22), []byte(long(1 << 22)), middle, short(16), middle}, api.ErrForm},
		{"a long tenant, and no more", [][]byte{short(1 << 22), []byte(long(1 << 22))}, api.ErrShort},
		{"a long tenant, and a body's short form with 00", [][]byte{short(1 << 22), []byte(long(1 << 22)), middle, {0x90, 0}}, api.ErrForm},
	} {
		if e := gets(t, x.what, slices.Concat(x.parts...)); e != x.want {
			t.Errorf("%s = %d, want %d", x.what, e, x.want)
		}
	}
}

// A field that is another one, each of them, of boxes that may be and of ones that may not.
func TestSame(t *testing.T) {
	for _, b := range []api.Box{
		{Tenant: "t", Epoch: 1, Nonce: nonceOne, Body: up(5, 20)},
		{Tenant: "", Epoch: 0, Body: up(0, 1)},
		{Tenant: "NO \x00", Epoch: math.MaxUint32, Nonce: api.Nonce(each(0xff, 12)), Body: make([]byte, 5000)},
	} {
		copied := func() api.Box {
			c := b
			c.Body = bytes.Clone(b.Body)
			return c
		}
		look := func(what string, c api.Box, want bool) {
			t.Helper()
			if box.Same(b, c) != want || box.Same(c, b) != want {
				t.Errorf("Same, %s: want %v", what, want)
			}
		}
		look("itself", b, true)
		look("a copy", copied(), true)
		c := copied()
		spoils(c.Nonce[:], func() { look("another nonce", c, false) })
		for bit := range 32 {
			c.Epoch ^= 1 << bit
			look("another epoch", c, false)
			c.Epoch ^= 1 << bit
		}
		spoils(c.Body[:min(len(c.Body), 40)], func() { look("another body", c, false) })
		look("a copy", c, true)
		for _, tenant := range []string{b.Tenant + "t", b.Tenant + "\x00", "T", "x" + b.Tenant} {
			c := copied()
			c.Tenant = tenant
			look("another tenant", c, false)
		}
		c = copied()
		c.Body = c.Body[:len(c.Body)-1]
		look("a body cut", c, false)
		c.Body = append(bytes.Clone(b.Body), 0)
		look("a body grown", c, false)
		c.Body = nil
		look("no body", c, false)
	}
	if !box.Same(api.Box{}, api.Box{Body: []byte{}}) || !box.Same(api.Box{Body: make([]byte, 0, 9)}, api.Box{}) {
		t.Error("a nil body isn't the same as one without bytes")
	}
}

// Keys that were wrapped apart from this program, for tenants of any bytes.
func TestWrappedKeysAreThese(t *testing.T) {
	for _, x := range []struct {
		k      api.Key
		n      api.Nonce
		tenant string
		epoch  uint32
		key    api.Key
		want   string
	}{
		{keyOne, nonceOne, "t", 1, api.Key(each(3, 32)), "e51ff12d8ea0ebd9722eeafad088e72a8fb06f0e80a97ed0178718bef69547df15e8ddc2f41c6266612c4ff04d210349"},
		{api.Key(up(0x80, 32)), api.Nonce(up(0x40, 12)), "tenant-9", 0xfffefdfc, api.Key(up(7, 32)), "5a885b30951536fb26bf0a63d7cd127300009758c5c8df94c48734da08a8ade6dcc763a15f16034a137d37166d3e992d"},
		{api.Key(up(0x80, 32)), api.Nonce(up(0x40, 12)), "", 0, api.Key{}, "5d80523a9e193bf529af1b71c4d9076517188e42ded4c28adba715f82b8c88c016dce2e90af55db8ee80efb1207bf2d2"},
		{api.Key(up(0, 32)), api.Nonce(up(0xf8, 12)), "No Name\x00\xff", 256, api.Key(each(0xff, 32)), "2c205bacde9f984bd483e5d70e3918042e965ca48eee1ebb06b075d348568ad9b8401f2bd4e5ffd3144c34ff647aaae5"},
	} {
		for range 2 {
			if got := hex.EncodeToString(box.Wrap(x.k, x.n, x.tenant, x.epoch, x.key)); got != x.want {
				t.Errorf("Wrap for %q = %s, want %s", x.tenant, got, x.want)
			}
		}
		b, _ := hex.DecodeString(x.want)
		unwraps(t, "as reckoned", x.k, x.n, x.tenant, x.epoch, b, x.key, api.OK)
	}
}

// Names or not, short or long: what was wrapped is unwrapped.
func TestWhatWasWrappedIsUnwrapped(t *testing.T) {
	for i, tenant := range []string{"", "t", long(24), long(25), "A", " ", "\x00", "é", "\xff\xff", long(5000), long(1 << 20)} {
		for _, epoch := range []uint32{0, 1, 2, 255, 256, 1 << 31, math.MaxUint32} {
			for _, key := range []api.Key{{}, api.Key(up(byte(i), 32)), api.Key(each(0xff, 32))} {
				b := box.Wrap(keyOne, nonceOne, tenant, epoch, key)
				told, _ := aead.Seal(keyOne, nonceOne, tellBeside("K", tenant, epoch), key[:])
				if len(b) != 48 || !bytes.Equal(b, told) {
					t.Errorf("Wrap for %.30q = %x, want %x", tenant, b, told)
				}
				unwraps(t, "as it was", keyOne, nonceOne, tenant, epoch, b, key, api.OK)
			}
		}
	}
}

func TestUnwrapErrors(t *testing.T) {
	k, n, key := api.Key(up(9, 32)), api.Nonce(up(70, 12)), api.Key(up(33, 32))
	b := box.Wrap(k, n, "ab", 0x01020304, key)
	look := func(what string) func() {
		return func() { t.Helper(); unwraps(t, what, k, n, "ab", 0x01020304, b, api.Key{}, api.ErrOpen) }
	}
	spoils(k[:], look("another key"))
	spoils(n[:], look("another nonce"))
	spoils(b, look("other bytes"))
	for bit := range 32 {
		unwraps(t, "another epoch", k, n, "ab", 0x01020304^1<<bit, b, api.Key{}, api.ErrOpen)
	}
	for _, tenant := range []string{"", "a", "b", "ba", "abb", "aab", "AB", "ab\x00", "\x00ab", "ab ", long(1000)} {
		unwraps(t, "another tenant", k, n, tenant, 0x01020304, b, api.Key{}, api.ErrOpen)
	}
	// Bytes of another length are told ahead of what they are, also if they are sealed.
	for size := range 200 {
		sealed, _ := aead.Seal(k, n, tellBeside("K", "ab", 0x01020304), make([]byte, size))
		if size != 32 {
			unwraps(t, "sealed, of another length", k, n, "ab", 0x01020304, sealed, api.Key{}, api.ErrForm)
		}
		want := api.ErrForm
		if size == 48 {
			want = api.ErrOpen
		}
		unwraps(t, "any bytes", k, n, "ab", 0x01020304, make([]byte, size), api.Key{}, want)
	}
	unwraps(t, "nil", k, n, "ab", 0x01020304, nil, api.Key{}, api.ErrForm)
	unwraps(t, "many bytes", k, n, "ab", 0x01020304, make([]byte, 1<<20), api.Key{}, api.ErrForm)
	unwraps(t, "cut", k, n, "ab", 0x01020304, b[:47], api.Key{}, api.ErrForm)
	unwraps(t, "grown", k, n, "ab", 0x01020304, append(bytes.Clone(b), 0), api.Key{}, api.ErrForm)
	unwraps(t, "as it was", k, n, "ab", 0x01020304, b, key, api.OK)
}

// Whatever their values are: boxes of pieces have as many bytes, and are the same but for what is sealed.
func TestLengthDoesNotHangOnValues(t *testing.T) {
	r := rand.New(rand.NewSource(5))
	for range 300 {
		l := drawPieces(r)
		a, e := box.Seal(keyOne, nonceOne, "t", 3, l)
		for range 4 {
			other := slices.Clone(l)
			for i := range other {
				other[i].V = oneOf(r, 0, -1, math.MinInt64, math.MaxInt64, int64(r.Uint64()))
			}
			b, f := box.Seal(keyOne, nonceOne, "t", 3, other)
			if e != f || len(a.Body) != len(b.Body) || len(box.Put(nil, a)) != len(box.Put(nil, b)) {
				t.Fatalf("%d bytes and %d, by other values %d and %d", len(a.Body), e, len(b.Body), f)
			}
			if b.Body = a.Body; !box.Same(a, b) {
				t.Fatal("other values, another tenant, epoch or nonce")
			}
		}
	}
}

// What is handed in stays as it is and isn't read behind its length; what is answered shares no memory with it.
func TestMemory(t *testing.T) {
	pieces := append(row("a", 3), row("z", 2)...)
	before := slices.Clone(pieces)
	want := seals(t, keyOne, nonceOne, "t", 1, before[:3])
	form := tellForm(want)

	b := seals(t, keyOne, nonceOne, "t", 1, pieces[:3])
	again := seals(t, keyOne, nonceOne, "t", 1, pieces[:3])
	clear(b.Body[:cap(b.Body)])
	if !slices.Equal(pieces, before) || !same(again, want) {
		t.Fatal("what Seal answers isn't memory of its own")
	}

	memory := append(bytes.Clone(want.Body), each(7, 50)...)
	b.Body = memory[:len(want.Body)]
	l, e := box.Open(keyOne, b)
	if e != api.OK || !slices.Equal(l, before[:3]) {
		t.Fatalf("Open = %v, %d", l, e)
	}
	clear(l[:cap(l)])
	if !bytes.Equal(memory, append(bytes.Clone(want.Body), each(7, 50)...)) {
		t.Fatal("what Open answers isn't memory of its own")
	}
	opens(t, "once more", keyOne, b, before[:3])

	for _, x := range []struct {
		b    api.Box
		want []byte
	}{{b, append([]byte{1, 2, 3}, form...)}, {api.Box{}, []byte{1, 2, 3}}} {
		to := append(make([]byte, 0, 9000), 1, 2, 3, 9, 9)
		laid := box.Put(to[:3], x.b)
		if !bytes.Equal(laid, x.want) || !bytes.Equal(to[:cap(to)], append([]byte{1, 2, 3, 9, 9}, make([]byte, 8995)...)) {
			t.Fatalf("Put = %x, behind %x", laid, to)
		}
		to[0], b.Body[0] = 8, b.Body[0]^1
		if !bytes.Equal(laid, x.want) {
			t.Fatal("what Put answers isn't memory of its own")
		}
		to[0], b.Body[0] = 1, b.Body[0]^1
		clear(laid[:cap(laid)])
		if !bytes.Equal(to, []byte{1, 2, 3, 9, 9}) || !same(b, want) {
			t.Fatal("what Put answers isn't memory of its own")
		}
	}

	from := append(bytes.Clone(form), 1, 2, 3)
	got, used, e := box.Get(from[:len(form)])
	if e != api.OK || used != len(form) || !same(got, want) {
		t.Fatalf("Get = %v, %d, %d", got, used, e)
	}
	clear(from)
	if !same(got, want) {
		t.Fatal("what Get answers hangs on what was handed in")
	}
	from = append(bytes.Clone(form), 1, 2, 3)
	got, _, _ = box.Get(from)
	clear(got.Body[:cap(got.Body)])
	if !bytes.Equal(from, append(bytes.Clone(form), 1, 2, 3)) {
		t.Fatal("what Get answers isn't memory of its own")
	}

	key := api.Key(up(3, 32))
	wrapped := box.Wrap(keyOne, nonceOne, "t", 1, key)
	kept := append(bytes.Clone(wrapped), 5, 5)
	unwraps(t, "in greater memory", keyOne, nonceOne, "t", 1, kept[:48], key, api.OK)
	if !bytes.Equal(kept, append(bytes.Clone(wrapped), 5, 5)) {
		t.Fatal("Unwrap writes on what is handed in")
	}
	clear(wrapped[:cap(wrapped)])
	if !bytes.Equal(box.Wrap(keyOne, nonceOne, "t", 1, key), kept[:48]) {
		t.Fatal("what Wrap answers isn't memory of its own")
	}
}

// An error is told ahead of anything that is above a limit: no call makes as much as it was handed in.
func TestErrorsMakeNothingGreat(t *testing.T) {
	const great = 1 << 24
	name, body, middle := long(great), make([]byte, great), make([]byte, 16)
	tenant := slices.Concat(tellShort(great), []byte(name), middle, tellShort(16), middle)
	sealed := slices.Concat([]byte{1, 't'}, middle, tellShort(great), body)
	pieces := make([]api.Piece, great/64)
	for _, x := range []struct {
		what string
		ask  func() api.Errno
		want api.Errno
	}{
		{"Seal, a great tenant", func() api.Errno { _, e := box.Seal(keyOne, nonceOne, name, 1, nil); return e }, api.ErrArg},
		{"Seal, a great many pieces", func() api.Errno { _, e := box.Seal(keyOne, nonceOne, "t", 1, pieces); return e }, api.ErrLong},
		{"Open, a great tenant", func() api.Errno { _, e := box.Open(keyOne, api.Box{Tenant: name, Body: middle}); return e }, api.ErrArg},
		{"Open, a great body", func() api.Errno { _, e := box.Open(keyOne, api.Box{Tenant: "t", Body: body}); return e }, api.ErrArg},
		{"Put, a great tenant", func() api.Errno { return api.Errno(len(box.Put(nil, api.Box{Tenant: name, Body: middle}))) }, 0},
		{"Put, a great body", func() api.Errno { return api.Errno(len(box.Put(nil, api.Box{Tenant: "t", Body: body}))) }, 0},
		{"Get, a great tenant", func() api.Errno { _, _, e := box.Get(tenant); return e }, api.ErrForm},
		{"Get, a great body", func() api.Errno { _, _, e := box.Get(sealed); return e }, api.ErrForm},
		{"Unwrap, many bytes", func() api.Errno { _, e := box.Unwrap(keyOne, nonceOne, "t", 1, body); return e }, api.ErrForm},
	} {
		var before, after runtime.MemStats
		runtime.ReadMemStats(&before)
		e := x.ask()
		runtime.ReadMemStats(&after)
		if made := after.TotalAlloc - before.TotalAlloc; e != x.want || made >= great/16 {
			t.Errorf("%s: %d, and %d bytes are made", x.what, e, made)
		}
	}
}
