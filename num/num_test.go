package num_test

import (
	"bytes"
	"math"
	"math/rand"
	"testing"

	"quaestor/api"
	"quaestor/num"
)

// edges are numbers about which a form grows, a sign turns, or a number goes round.
func edges() []uint64 {
	l := []uint64{0, 1, 2, 3, 127, 128, 129, 255, 256, 257, 300, 16383, 16384, 16385}
	for i := range 64 {
		l = append(l, 1<<i-1, 1<<i, 1<<i+1)
	}
	return append(l, math.MaxUint64-1, math.MaxUint64)
}

// widths that are none.
func noWidths() []int {
	return []int{math.MinInt, -9, -8, -1, 0, 9, 10, 64, math.MaxInt}
}

func TestPutLaysLowestByteFirst(t *testing.T) {
	const n = 0x0102030405060708
	whole := []byte{8, 7, 6, 5, 4, 3, 2, 1}
	for width := 1; width <= 8; width++ {
		if got := num.Put(nil, n, width); !bytes.Equal(got, whole[:width]) {
			t.Errorf("Put(nil, %#x, %d) = %x", uint64(n), width, got)
		}
		if got := num.Put([]byte{7, 9}, n, width); !bytes.Equal(got, append([]byte{7, 9}, whole[:width]...)) {
			t.Errorf("Put({7, 9}, %#x, %d) = %x", uint64(n), width, got)
		}
	}
}

func TestPutTakesNumberModuloItsWidth(t *testing.T) {
	for _, n := range edges() {
		for width := 1; width <= 8; width++ {
			want := n
			if width < 8 {
				want %= 1 << (8 * width)
			}
			b := num.Put(nil, n, width)
			if len(b) != width {
				t.Fatalf("Put(nil, %d, %d) has %d bytes", n, width, len(b))
			}
			if got, e := num.Get(b, width); got != want || e != api.OK {
				t.Fatalf("Get(Put(nil, %d, %d)) = %d, %d, want %d", n, width, got, e, want)
			}
		}
	}
}

func TestPutWithoutWidthIsAlone(t *testing.T) {
	for _, width := range noWidths() {
		if got := num.Put([]byte{1, 2}, 77, width); !bytes.Equal(got, []byte{1, 2}) {
			t.Errorf("Put({1, 2}, 77, %d) = %x", width, got)
		}
		if got := num.Put(nil, 77, width); len(got) != 0 {
			t.Errorf("Put(nil, 77, %d) = %x", width, got)
		}
	}
}

func TestGetReadsFirstBytesAlone(t *testing.T) {
	b := []byte{1, 2, 3, 4, 5, 6, 7, 0xff, 9, 9}
	want := []uint64{0x1, 0x201, 0x30201, 0x4030201, 0x504030201, 0x60504030201, 0x7060504030201, 0xff07060504030201}
	for i, n := range want {
		if got, e := num.Get(b, i+1); got != n || e != api.OK {
			t.Errorf("Get(%x, %d) = %#x, %d, want %#x", b, i+1, got, e, n)
		}
		if got, e := num.Get(b[:i+1], i+1); got != n || e != api.OK {
			t.Errorf("Get(%x, %d) = %#x, %d, want %#x", b[:i+1], i+1, got, e, n)
		}
	}
}

func TestGetErrors(t *testing.T) {
	for _, width := range noWidths() {
		for _, b := range [][]byte{nil, {1}, make([]byte, 80)} { // ErrArg goes ahead of ErrShort
			if n, e := num.Get(b, width); n != 0 || e != api.ErrArg {
				t.Errorf("Get(%d bytes, %d) = %d, %d", len(b), width, n, e)
			}
		}
	}
	for width := 1; width <= 8; width++ {
		for size := range width {
			b := bytes.Repeat([]byte{5}, 8)[:size] // what lies behind the length isn't read
			if n, e := num.Get(b, width); n != 0 || e != api.ErrShort {
				t.Errorf("Get(%d bytes, %d) = %d, %d", size, width, n, e)
			}
		}
	}
}

func TestShortForms(t *testing.T) {
	forms := []struct {
		n    uint64
		form []byte
	}{
		{0, []byte{0}},
		{1, []byte{1}},
		{127, []byte{0x7f}},
		{128, []byte{0x80, 1}},
		{300, []byte{0xac, 2}},
		{16383, []byte{0xff, 0x7f}},
		{16384, []byte{0x80, 0x80, 1}},
		{1<<63 - 1, []byte{0xff, 0xff, 0xff, 0xff, 0xff, 0xff, 0xff, 0xff, 0x7f}},
		{1 << 63, []byte{0x80, 0x80, 0x80, 0x80, 0x80, 0x80, 0x80, 0x80, 0x80, 1}},
		{math.MaxUint64, []byte{0xff, 0xff, 0xff, 0xff, 0xff, 0xff, 0xff, 0xff, 0xff, 1}},
	}
	for _, f := range forms {
		if got := num.PutShort(nil, f.n); !bytes.Equal(got, f.form) {
			t.Errorf("PutShort(nil, %d) = %x, want %x", f.n, got, f.form)
		}
		if got := num.PutShort([]byte{7, 9}, f.n); !bytes.Equal(got, append([]byte{7, 9}, f.form...)) {
			t.Errorf("PutShort({7, 9}, %d) = %x", f.n, got)
		}
	}
}

func TestShortFormAndBack(t *testing.T) {
	for _, n := range edges() {
		form := num.PutShort(nil, n)
		for _, behind := range [][]byte{nil, {0}, {0xff}, {0x80, 0x80}} {
			got, used, e := num.GetShort(append(bytes.Clone(form), behind...))
			if got != n || used != len(form) || e != api.OK {
				t.Fatalf("GetShort(%x, then %x) = %d, %d, %d, want %d, %d", form, behind, got, used, e, n, len(form))
			}
		}
		for size := range len(form) {
			if got, used, e := num.GetShort(form[:size]); got != 0 || used != 0 || e != api.ErrShort {
				t.Fatalf("GetShort(%x) = %d, %d, %d, want ErrShort", form[:size], got, used, e)
			}
		}
	}
}

func TestGetShortErrors(t *testing.T) {
	nine := bytes.Repeat([]byte{0x80}, 9)
	full := bytes.Repeat([]byte{0xff}, 9)
	wrong := []struct {
		b []byte
		e api.Errno
	}{
		{nil, api.ErrShort},
		{[]byte{}, api.ErrShort},
		{[]byte{0x80}, api.ErrShort},
		{nine, api.ErrShort},
		{full, api.ErrShort},
		{[]byte{0x80, 0}, api.ErrForm},
		{[]byte{0x80, 0, 1}, api.ErrForm},
		{[]byte{0xff, 0xff, 0}, api.ErrForm},
		{append(bytes.Clone(nine), 0), api.ErrForm},
		{append(bytes.Clone(full), 0), api.ErrForm},
		{append(bytes.Clone(nine), 2), api.ErrForm},
		{append(bytes.Clone(full), 2), api.ErrForm},
		{append(bytes.Clone(full), 0x7f), api.ErrForm},
		{append(bytes.Clone(nine), 0x80), api.ErrForm}, // told at the tenth byte, though b ends there
		{append(bytes.Clone(nine), 0x81), api.ErrForm},
		{append(bytes.Clone(nine), 0x81, 1), api.ErrForm},
		{bytes.Repeat([]byte{0xff}, 10), api.ErrForm},
		{bytes.Repeat([]byte{0x80}, 4000), api.ErrForm},
	}
	for _, w := range wrong {
		if n, used, e := num.GetShort(w.b); n != 0 || used != 0 || e != w.e {
			t.Errorf("GetShort(%x) = %d, %d, %d, want error %d", w.b, n, used, e, w.e)
		}
	}
}

// Whatever bytes are read as a number, that number's short form is those bytes: there is one form a number.
func TestShortFormIsTheOnlyOne(t *testing.T) {
	r := rand.New(rand.NewSource(1))
	for range 200000 {
		b := make([]byte, r.Intn(13))
		for i := range b {
			b[i] = byte(r.Intn(256))
			if r.Intn(4) > 0 {
				b[i] |= 0x80
			}
			if r.Intn(6) == 0 {
				b[i] = byte(r.Intn(3))
			}
		}
		n, used, e := num.GetShort(b)
		if e == api.OK && !bytes.Equal(num.PutShort(nil, n), b[:used]) {
			t.Fatalf("GetShort(%x) = %d, %d", b, n, used)
		}
		if e != api.OK && (n != 0 || used != 0) {
			t.Fatalf("GetShort(%x) = %d, %d beside error %d", b, n, used, e)
		}
	}
}

func TestZigzag(t *testing.T) {
	pairs := []struct {
		n   int64
		zig uint64
	}{
		{0, 0}, {-1, 1}, {1, 2}, {-2, 3}, {2, 4}, {-3, 5}, {150, 300},
		{math.MaxInt64, math.MaxUint64 - 1}, {math.MinInt64, math.MaxUint64},
		{math.MinInt64 + 1, math.MaxUint64 - 2}, {1 << 62, 1 << 63}, {-1 << 62, 1<<63 - 1},
	}
	for _, p := range pairs {
		if got := num.Zig(p.n); got != p.zig {
			t.Errorf("Zig(%d) = %d, want %d", p.n, got, p.zig)
		}
		if got := num.Zag(p.zig); got != p.n {
			t.Errorf("Zag(%d) = %d, want %d", p.zig, got, p.n)
		}
	}
	for _, n := range edges() {
		if num.Zig(num.Zag(n)) != n || num.Zag(num.Zig(int64(n))) != int64(n) {
			t.Errorf("zigzag of %d isn't undone", n)
		}
	}
}

// What is handed in stays as it is, behind its length too; what is answered shares nothing with it.
func TestPutsAnswerNewMemory(t *testing.T) {
	puts := []func([]byte) []byte{
		func(b []byte) []byte { return num.Put(b, 0xaaaaaaaaaaaaaaaa, 8) },
		func(b []byte) []byte { return num.Put(b, 0xaaaaaaaaaaaaaaaa, 1) },
		func(b []byte) []byte { return num.Put(b, 0xaaaaaaaaaaaaaaaa, 0) },
		func(b []byte) []byte { return num.Put(b, 0xaaaaaaaaaaaaaaaa, 9) },
		func(b []byte) []byte { return num.PutShort(b, 5) },
		func(b []byte) []byte { return num.PutShort(b, math.MaxUint64) },
	}
	for i, put := range puts {
		memory := bytes.Repeat([]byte{3}, 32)
		got := put(memory[:2])
		if !bytes.Equal(memory, bytes.Repeat([]byte{3}, 32)) {
			t.Errorf("put %d wrote into what was handed in: %x", i, memory)
		}
		memory[0] = 99
		if got[0] != 3 {
			t.Errorf("put %d kept what was handed in", i)
		}
		got = got[:cap(got)]
		for j := range got {
			got[j] = 0x55
		}
		if memory[1] != 3 || memory[2] != 3 {
			t.Errorf("put %d answered memory that was handed in", i)
		}
	}
}
