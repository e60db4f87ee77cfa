package box_test

import (
	"bytes"
	"encoding/binary"
	"fmt"
	"math/big"
	"math/rand"
	"regexp"
	"slices"
	"testing"

	"quaestor/aead"
	"quaestor/api"
	"quaestor/box"
	"quaestor/delta"
)

// The chapter told once more: names by a pattern, forms by numbers of any size that are read from the front.

var toldName = regexp.MustCompile(`\A[a-z0-9-]{1,24}\z`)

func tellCheck(b api.Box) api.Errno {
	if n := len(b.Body); !toldName.MatchString(b.Tenant) || n < 16 || n > 4112 {
		return api.ErrArg
	}
	return api.OK
}

// tellShort answers the short form of n.
func tellShort(n int) []byte { return binary.AppendUvarint(nil, uint64(n)) }

func tellBeside(kind, tenant string, epoch uint32) []byte {
	b := []byte(kind)
	for range 4 {
		b = append(b, byte(epoch%256))
		epoch /= 256
	}
	return append(b, tenant...)
}

// tellForm answers the form of any box, also of one that may not be.
func tellForm(b api.Box) []byte {
	var form bytes.Buffer
	form.Write(tellShort(len(b.Tenant)))
	form.WriteString(b.Tenant)
	binary.Write(&form, binary.LittleEndian, b.Epoch)
	form.Write(b.Nonce[:])
	form.Write(tellShort(len(b.Body)))
	form.Write(b.Body)
	return form.Bytes()
}

func tellSeal(k api.Key, n api.Nonce, tenant string, epoch uint32, l []api.Piece) (api.Box, api.Errno) {
	if !toldName.MatchString(tenant) {
		return api.Box{}, api.ErrArg
	}
	laid, e := delta.Lay(l)
	if e != api.OK {
		return api.Box{}, e
	}
	body, _ := aead.Seal(k, n, tellBeside("B", tenant, epoch), laid)
	return api.Box{Tenant: tenant, Epoch: epoch, Nonce: n, Body: body}, api.OK
}

func tellOpen(k api.Key, b api.Box) ([]api.Piece, api.Errno) {
	if e := tellCheck(b); e != api.OK {
		return nil, e
	}
	laid, e := aead.Open(k, b.Nonce, tellBeside("B", b.Tenant, b.Epoch), b.Body)
	if e != api.OK {
		return nil, e
	}
	return delta.Read(laid)
}

// scan reads from the front, until the first error.
type scan struct {
	b []byte
	e api.Errno
}

// bytes answers so many bytes.
func (s *scan) bytes(n *big.Int) []byte {
	if s.e == api.OK && n.Cmp(big.NewInt(int64(len(s.b)))) > 0 {
		s.e = api.ErrShort
	}
	if s.e != api.OK {
		return nil
	}
	taken := s.b[:n.Int64()]
	s.b = s.b[n.Int64():]
	return taken
}

func (s *scan) some(n int64) []byte { return s.bytes(big.NewInt(n)) }

// short answers the number that is told in short form.
func (s *scan) short() *big.Int {
	n := new(big.Int)
	for i := 0; s.e == api.OK; i++ {
		one := s.some(1)
		if s.e != api.OK {
			break
		}
		c := one[0]
		digit := big.NewInt(int64(c % 128))
		n.Add(n, digit.Lsh(digit, uint(7*i)))
		if i == 9 && c > 1 || i > 0 && c == 0 {
			s.e = api.ErrForm
		} else if c < 128 {
			return n
		}
	}
	return new(big.Int)
}

func tellGet(from []byte) (api.Box, int, api.Errno) {
	s := scan{b: from}
	var b api.Box
	b.Tenant = string(s.bytes(s.short()))
	if epoch := s.some(4); s.e == api.OK {
		b.Epoch = binary.LittleEndian.Uint32(epoch)
	}
	if nonce := s.some(12); s.e == api.OK {
		b.Nonce = api.Nonce(nonce)
	}
	b.Body = s.bytes(s.short())
	if s.e == api.OK && tellCheck(b) != api.OK {
		s.e = api.ErrForm
	}
	if s.e != api.OK {
		return api.Box{}, 0, s.e
	}
	return b, len(from) - len(s.b), api.OK
}

// same tells whether the texts of two boxes with all their fields are the same.
func same(a, b api.Box) bool {
	return fmt.Sprintf("%q %d %x %x", a.Tenant, a.Epoch, a.Nonce, a.Body) == fmt.Sprintf("%q %d %x %x", b.Tenant, b.Epoch, b.Nonce, b.Body)
}

// gets holds what is read of some bytes against what is told, answers its error, and asks that what was read is laid as those bytes.
func gets(t *testing.T, what string, from []byte) api.Errno {
	t.Helper()
	want, wantUsed, wantE := tellGet(from)
	for range 2 { // the same answer each time
		b, used, e := box.Get(from)
		if e != wantE || used != wantUsed || !same(b, want) {
			t.Fatalf("Get, %s, of %.120x: %.200v, %d, %d, want %.200v, %d, %d", what, from, b, used, e, want, wantUsed, wantE)
		}
		if e == api.OK && !bytes.Equal(box.Put(nil, b), from[:used]) {
			t.Fatalf("Get, %s: what was read is laid otherwise", what)
		}
	}
	return wantE
}

// holds holds all that is answered of a box, and of these keys, against what is told.
func holds(t *testing.T, what string, k api.Key, b api.Box) {
	t.Helper()
	want := tellCheck(b)
	if e := box.Check(b); e != want {
		t.Fatalf("Check, %s = %d, want %d", what, e, want)
	}
	pieces, e := box.Open(k, b)
	if toldPieces, toldE := tellOpen(k, b); e != toldE || !slices.Equal(pieces, toldPieces) {
		t.Fatalf("Open, %s: %d pieces and %d, want %d and %d", what, len(pieces), e, len(toldPieces), toldE)
	}
	form := tellForm(b)
	for _, to := range [][]byte{nil, {}, {1, 2, 3}} {
		laid := bytes.Clone(to)
		if want == api.OK {
			laid = append(laid, form...)
		}
		if got := box.Put(to, b); !bytes.Equal(got, laid) {
			t.Fatalf("Put, %s, behind %x = %x, want %x", what, to, got, laid)
		}
	}
	got := gets(t, what, append(form, 0xff, 1))
	if got != api.OK && got != api.ErrForm || (got == api.OK) != (want == api.OK) {
		t.Fatalf("Get, %s = %d, Check %d", what, got, want)
	}
}

// oneOf answers one of some things, by chance.
func oneOf[A any](r *rand.Rand, l ...A) A { return l[r.Intn(len(l))] }

// drawBytes answers so many bytes, by chance.
func drawBytes(r *rand.Rand, n int) []byte {
	b := make([]byte, n)
	r.Read(b)
	return b
}

// drawTenant answers a tenant that mostly is a name.
func drawTenant(r *rand.Rand) string {
	const names = "abcdefghijklmnopqrstuvwxyz0123456789-"
	var b []byte
	for range 1 + r.Intn(oneOf(r, 3, 24)) {
		b = append(b, names[r.Intn(len(names))])
	}
	switch r.Intn(12) {
	case 0:
		return string(append(b, drawBytes(r, r.Intn(30))...))
	case 1:
		b[r.Intn(len(b))] = oneOf[byte](r, 'A', 'Z', '_', ' ', '`', '{', '/', ':', ',', '.', 0, 0x80, 0xff)
	case 2:
		return oneOf(r, "", "t", long(23), long(24), long(25), long(26), long(200), "é")
	}
	return string(b)
}

// drawPieces answers pieces that mostly may be laid.
func drawPieces(r *rand.Rand) []api.Piece {
	var l []api.Piece
	for i := range r.Intn(4) {
		series := string(rune('a'+i)) + string(drawBytes(r, r.Intn(20)))
		for at := range r.Intn(5) {
			id := api.Id{N: r.Uint64() >> r.Intn(64), Node: uint16(r.Uint32())}
			l = append(l, api.Piece{Series: series, T: int64(at*7 - r.Intn(7)), V: int64(r.Uint64()), Id: id})
		}
	}
	switch {
	case len(l) > 0 && r.Intn(15) == 0:
		l[r.Intn(len(l))].Series = oneOf(r, "", long(200), long(201), "a")
	case r.Intn(20) == 0:
		return row("s", 120+r.Intn(10))
	case r.Intn(20) == 0:
		r.Shuffle(len(l), func(i, j int) { l[i], l[j] = l[j], l[i] })
	}
	return l
}

// drawBox answers a box that mostly may be.
func drawBox(r *rand.Rand) api.Box {
	size := 16 + r.Intn(oneOf(r, 3, 300, 4097))
	if r.Intn(8) == 0 {
		size = oneOf(r, 0, 1, 15, 16, 17, 127, 128, 4111, 4112, 4113, 4200, 16384)
	}
	return api.Box{Tenant: drawTenant(r), Epoch: r.Uint32() >> r.Intn(33), Nonce: api.Nonce(drawBytes(r, 12)), Body: drawBytes(r, size)}
}

// Boxes by chance, each answer held against what is told of it.
func TestBoxesByChance(t *testing.T) {
	counts := map[api.Errno]int{}
	for seed := range 3000 {
		r := rand.New(rand.NewSource(int64(seed)))
		k, n, tenant, epoch, l := api.Key(drawBytes(r, 32)), api.Nonce(drawBytes(r, 12)), drawTenant(r), r.Uint32()>>r.Intn(33), drawPieces(r)
		want, wantE := tellSeal(k, n, tenant, epoch, l)
		b, e := box.Seal(k, n, tenant, epoch, l)
		if e != wantE || !same(b, want) {
			t.Fatalf("Seal for %q, %d pieces: %v, %d, want %v, %d", tenant, len(l), b, e, want, wantE)
		}
		counts[e]++
		if e == api.OK {
			holds(t, "sealed", k, b)
			opens(t, "sealed", k, b, l)
		}
		other := drawBox(r)
		holds(t, "drawn", k, other)
		counts[box.Check(other)]++
	}
	if counts[api.OK] < 3000 || counts[api.ErrArg] < 500 || counts[api.ErrLong] < 20 {
		t.Errorf("the errors are %v", counts)
	}
}

// Forms by chance, cut, grown and changed at some places.
func TestFormsByChance(t *testing.T) {
	counts := map[api.Errno]int{}
	for seed := range 4000 {
		r := rand.New(rand.NewSource(int64(seed)))
		form := tellForm(drawBox(r))
		for range r.Intn(4) {
			switch at := r.Intn(len(form) + 1); r.Intn(6) {
			case 0:
				form = append([]byte{}, form[:at]...)
			case 1:
				form = append(form, drawBytes(r, r.Intn(9))...)
			case 2:
				form = append(append(bytes.Clone(form[:at]), drawBytes(r, 1+r.Intn(3))...), form[at:]...)
			default:
				at = min(at, r.Intn(45))
				if at < len(form) {
					form[at] = oneOf(r, 0, 1, 24, 25, 0x7f, 0x80, 0xff, byte(r.Intn(256)))
				}
			}
		}
		counts[gets(t, "by chance", form)]++
		counts[gets(t, "bytes by chance", drawBytes(r, r.Intn(60)))]++
	}
	if counts[api.OK] < 800 || counts[api.ErrForm] < 400 || counts[api.ErrShort] < 400 {
		t.Errorf("the errors are %v", counts)
	}
}
