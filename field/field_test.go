package field_test

import (
	"bytes"
	"crypto/sha256"
	"encoding/hex"
	"math/rand"
	"testing"

	"quaestor/api"
	"quaestor/field"
)

// some answers so many bytes, the same ones each time for a seed.
func some(seed, n int) []byte {
	b := make([]byte, n)
	rand.New(rand.NewSource(int64(seed))).Read(b)
	return b
}

// full answers so many bytes ff.
func full(n int) []byte {
	return bytes.Repeat([]byte{0xff}, n)
}

// told answers the product as the chapter tells it: that of the polynomials, and what is left of it, bit by bit from the highest.
func told(a, b byte) byte {
	product := 0
	for i := range 8 {
		if b>>i&1 == 1 {
			product ^= int(a) << i
		}
	}
	for i := 14; i >= 8; i-- {
		if product>>i&1 == 1 {
			product ^= 0x11b << (i - 8) // x^8 + x^4 + x^3 + x + 1
		}
	}
	return byte(product)
}

// value answers the sum of l[i] times x to the i, each power reckoned by itself.
func value(l []byte, x byte) byte {
	var sum byte
	for i, c := range l {
		term := c
		for range i {
			term = told(term, x)
		}
		sum ^= term
	}
	return sum
}

// isFingerprint asks that the bytes are those whose fingerprint was reckoned apart from this program.
func isFingerprint(t *testing.T, what string, b []byte, want string) {
	t.Helper()
	sum := sha256.Sum256(b)
	if got := hex.EncodeToString(sum[:]); got != want {
		t.Errorf("the fingerprint of %s = %s, want %s", what, got, want)
	}
}

// others are tables of other bytes than Build's.
func others() []*field.Tables {
	one, bare := field.Build(), field.Build()
	one.Exp[7]++
	bare.Exp = [256]byte{}
	l := []*field.Tables{
		{}, one, bare,
		{Exp: [256]byte(full(256)), Log: [256]byte(full(256))},
		{Log: [256]byte(full(256))},
		{Exp: [256]byte(full(256))},
		{Exp: field.Build().Log, Log: field.Build().Exp},
	}
	for seed := range 4 {
		l = append(l, &field.Tables{Exp: [256]byte(some(seed, 256)), Log: [256]byte(some(seed+4, 256))})
	}
	return l
}

// The chapter's example, and those of FIPS 197.
func TestPublishedProducts(t *testing.T) {
	tables := field.Build()
	for _, p := range []struct{ a, b, want byte }{
		{0x57, 0x83, 0xc1}, {0x57, 0x13, 0xfe}, {0x57, 0x02, 0xae}, {0x57, 0x04, 0x47}, {0x57, 0x08, 0x8e}, {0x57, 0x10, 0x07},
		{0x53, 0xca, 0x01}, {0x80, 0x02, 0x1b}, {0, 0, 0}, {1, 1, 1}, {0xff, 1, 0xff}, {0xff, 0, 0}, {0xff, 0xff, 0x13},
	} {
		if got := tables.Mul(p.a, p.b); got != p.want {
			t.Errorf("Mul(%02x, %02x) = %02x, want %02x", p.a, p.b, got, p.want)
		}
		if got := tables.Mul(p.b, p.a); got != p.want {
			t.Errorf("Mul(%02x, %02x) = %02x, want %02x", p.b, p.a, got, p.want)
		}
	}
}

func TestTables(t *testing.T) {
	tables := field.Build()
	power := byte(1)
	for i := range 255 {
		if tables.Exp[i] != power {
			t.Errorf("Exp[%d] = %02x, want %02x", i, tables.Exp[i], power)
		}
		if tables.Log[power] != byte(i) {
			t.Errorf("Log[%02x] = %d, want %d", power, tables.Log[power], i)
		}
		power = told(power, 3)
	}
	if tables.Exp[255] != 1 || tables.Exp[0] != 1 {
		t.Errorf("Exp[255] = %02x and Exp[0] = %02x, want 01 both", tables.Exp[255], tables.Exp[0])
	}
	if tables.Log[0] != 0 || tables.Log[1] != 0 {
		t.Errorf("Log[0] = %d and Log[1] = %d, want 0 both", tables.Log[0], tables.Log[1])
	}
	isFingerprint(t, "Exp", tables.Exp[:], "8662c38c715ff53cf2cf498200b045ec63ef6fc2641bade783970a4da6aebd89")
	isFingerprint(t, "Log", tables.Log[:], "325bfee33a593e28e54e20f8520e5dfee122f719ef08ffe096a2ad31c4dc316f")
}

func TestProductsOfAll(t *testing.T) {
	tables := field.Build()
	var products []byte
	for i := range 1 << 16 {
		a, b := byte(i>>8), byte(i)
		got := tables.Mul(a, b)
		if want := told(a, b); got != want {
			t.Fatalf("Mul(%02x, %02x) = %02x, want %02x", a, b, got, want)
		}
		products = append(products, got)
	}
	isFingerprint(t, "all products", products, "14a1e7e77ca8a30b5bb53e6310748ce0498eb9e04ab78a44dbefb6ebfac8a84b")
}

func TestInversesOfAll(t *testing.T) {
	tables := field.Build()
	inverses := []byte{0}
	for i := 1; i < 256; i++ {
		a := byte(i)
		inverse, e := tables.Inv(a)
		if e != api.OK || told(a, inverse) != 1 {
			t.Errorf("Inv(%02x) = %02x, %d", a, inverse, e)
		}
		inverses = append(inverses, inverse)
	}
	isFingerprint(t, "all inverses", inverses, "a0b6126fef317bb998059c2fca3dddb40f2422e049866c3df87f1fde4e70a132")
	if inverse, e := tables.Inv(0); inverse != 0 || e != api.ErrArg {
		t.Errorf("Inv(00) = %02x, %d, want 00 and ErrArg", inverse, e)
	}
}

func TestQuotientsOfAll(t *testing.T) {
	tables := field.Build()
	var quotients []byte
	for i := range 1 << 16 {
		a, b := byte(i>>8), byte(i)
		got, e := tables.Div(a, b)
		if b == 0 {
			if got != 0 || e != api.ErrArg {
				t.Errorf("Div(%02x, 00) = %02x, %d, want 00 and ErrArg", a, got, e)
			}
			continue
		}
		if e != api.OK || told(got, b) != a {
			t.Fatalf("Div(%02x, %02x) = %02x, %d", a, b, got, e)
		}
		quotients = append(quotients, got)
	}
	isFingerprint(t, "all quotients", quotients, "fff7582364bd261f14ec935bf8481081ab89265db40ec6599b1792d50e7c566a")
}

// Lists of each length up to some, at each element; 0 to the 0 is 1.
func TestValues(t *testing.T) {
	tables := field.Build()
	for size := range 12 {
		for _, l := range [][]byte{some(size, size), make([]byte, size), full(size)} {
			for x := range 256 {
				if got, want := tables.Eval(l, byte(x)), value(l, byte(x)); got != want {
					t.Fatalf("Eval(%x, %02x) = %02x, want %02x", l, x, got, want)
				}
			}
		}
	}
	for _, p := range []struct {
		l       []byte
		x, want byte
	}{
		{nil, 0, 0}, {nil, 7, 0}, {[]byte{}, 0, 0}, {[]byte{}, 255, 0},
		{[]byte{9}, 0, 9}, {[]byte{9}, 1, 9}, {[]byte{9}, 255, 9}, {[]byte{9, 8, 7}, 0, 9}, {[]byte{0, 8, 7}, 0, 0},
		{[]byte{9, 8, 7}, 1, 9 ^ 8 ^ 7}, {[]byte{0, 1}, 0x57, 0x57}, {[]byte{0, 0x57}, 0x83, 0xc1}, {[]byte{1, 0x57}, 0x83, 0xc0},
	} {
		if got := tables.Eval(p.l, p.x); got != p.want {
			t.Errorf("Eval(%x, %02x) = %02x, want %02x", p.l, p.x, got, p.want)
		}
	}
}

// 600 values, of elements and lists by a short rule, that were reckoned apart from this program.
func TestManyValuesAreThese(t *testing.T) {
	tables := field.Build()
	var values []byte
	for seed := range 600 {
		drawn := make([]byte, 1+seed%41)
		next := uint64(seed)
		for i := range drawn {
			next = next*6364136223846793005 + 1442695040888963407
			drawn[i] = byte(next >> 56)
		}
		values = append(values, tables.Eval(drawn[1:], drawn[0]))
	}
	isFingerprint(t, "600 values", values, "e708935f6fbf9fa38f1b05dd8a47d9c73d8da4f64f1a66321a9df9d63c458939")
}

// Powers go round behind 254, so a long list is worth what its coefficients are, summed 255 by 255.
func TestValuesOfLongLists(t *testing.T) {
	tables := field.Build()
	for _, size := range []int{254, 255, 256, 257, 510, 511, 1000, 100000} {
		l := some(size, size)
		folded := make([]byte, 255)
		for i, c := range l {
			folded[i%255] ^= c
		}
		for x := range 256 {
			want := l[0]
			if x != 0 {
				want = value(folded, byte(x))
			}
			if size > 1000 && x%16 != 3 {
				continue
			}
			if got := tables.Eval(l, byte(x)); got != want {
				t.Fatalf("Eval of %d coefficients at %02x = %02x, want %02x", size, x, got, want)
			}
		}
	}
}

// Of tables of any bytes each call answers, twice the same, refuses 0 as ever, and leaves them as they are.
func TestOtherTables(t *testing.T) {
	for i, tables := range others() {
		as := *tables
		for j := range 1 << 16 {
			a, b := byte(j>>8), byte(j)
			product := tables.Mul(a, b)
			quotient, e := tables.Div(a, b)
			if (e == api.OK) != (b != 0) || e != api.OK && (e != api.ErrArg || quotient != 0) {
				t.Errorf("tables %d: Div(%02x, %02x) = %02x, %d", i, a, b, quotient, e)
			}
			again, _ := tables.Div(a, b)
			if tables.Mul(a, b) != product || again != quotient {
				t.Fatalf("tables %d: Mul or Div of %02x, %02x answers otherwise again", i, a, b)
			}
		}
		for a := range 256 {
			inverse, e := tables.Inv(byte(a))
			if (e == api.OK) != (a != 0) || e != api.OK && (e != api.ErrArg || inverse != 0) {
				t.Errorf("tables %d: Inv(%02x) = %02x, %d", i, a, inverse, e)
			}
			for _, l := range [][]byte{nil, {1}, some(a, 300), full(300)} {
				if tables.Eval(l, byte(a)) != tables.Eval(bytes.Clone(l), byte(a)) {
					t.Errorf("tables %d: Eval of %d coefficients answers otherwise again", i, len(l))
				}
			}
		}
		if *tables != as {
			t.Errorf("tables %d were changed", i)
		}
	}
}

// What the calls answer comes from the tables that they are asked of.
func TestTablesAreAsked(t *testing.T) {
	tables := field.Build()
	at := (int(tables.Log[0x57]) + int(tables.Log[0x83])) % 255
	tables.Exp[at] = 0x42
	if got := tables.Mul(0x57, 0x83); got != 0x42 {
		t.Errorf("Mul of tables that were changed = %02x, want 42", got)
	}
	if got := tables.Eval([]byte{1, 0x57}, 0x83); got != 0x43 {
		t.Errorf("Eval of tables that were changed = %02x, want 43", got)
	}
}

func TestNoTables(t *testing.T) {
	var none *field.Tables
	for i := range 1 << 16 {
		a, b := byte(i>>8), byte(i)
		if got := none.Mul(a, b); got != 0 {
			t.Fatalf("Mul(%02x, %02x) of no tables = %02x", a, b, got)
		}
		if got, e := none.Div(a, b); got != 0 || e != api.ErrArg {
			t.Fatalf("Div(%02x, %02x) of no tables = %02x, %d", a, b, got, e)
		}
	}
	for a := range 256 {
		if got, e := none.Inv(byte(a)); got != 0 || e != api.ErrArg {
			t.Errorf("Inv(%02x) of no tables = %02x, %d", a, got, e)
		}
		for _, l := range [][]byte{nil, {}, {byte(a)}, {1, 2, 3}, full(300)} {
			if got := none.Eval(l, byte(a)); got != 0 {
				t.Errorf("Eval(%x, %02x) of no tables = %02x", l, a, got)
			}
		}
	}
}

// Tables may be written over by whoever asked for them: those that are built again have nothing of it.
func TestTablesAreBuiltAnew(t *testing.T) {
	want := *field.Build()
	first, second := field.Build(), field.Build()
	if first == second {
		t.Fatal("Build answers the same memory twice")
	}
	*first = field.Tables{}
	first.Exp[9], first.Log[9] = 9, 9
	if *second != want || *field.Build() != want {
		t.Error("tables that were written over have changed others")
	}
}

// What is handed in stays as it is, and isn't read behind its length; so do the tables.
func TestMemory(t *testing.T) {
	tables := field.Build()
	as := *tables
	memory := some(1, 100)
	l := memory[10:30:60]
	want := value(bytes.Clone(l), 0x1d)
	if got := tables.Eval(l, 0x1d); got != want {
		t.Errorf("Eval of a part of memory = %02x, want %02x", got, want)
	}
	if !bytes.Equal(memory, some(1, 100)) {
		t.Error("Eval wrote into what was handed in")
	}
	for i := range memory {
		if i < 10 || i >= 30 {
			memory[i] ^= 0x55
		}
	}
	if got := tables.Eval(l, 0x1d); got != want {
		t.Errorf("Eval reads what lies about the list: %02x, want %02x", got, want)
	}
	if *tables != as {
		t.Error("Eval changed the tables")
	}
}
