package slot_test

import (
	"bytes"
	"encoding/binary"
	"math"
	"math/rand"
	"slices"
	"testing"

	"quaestor/api"
	"quaestor/disk"
	"quaestor/slot"
)

// opened opens a pair without an error.
func opened(t *testing.T, d *disk.Disk, from, k int) *slot.Pair {
	t.Helper()
	p, e := slot.Open(d, from, k)
	if p == nil || e != api.OK {
		t.Fatalf("Open(%d, %d) answers the error %d", from, k, e)
	}
	return p
}

// loads asks that a pair has these bytes with this number.
func loads(t *testing.T, what string, p *slot.Pair, b []byte, n uint64) {
	t.Helper()
	if got, m, e := p.Load(); e != api.OK || m != n || !bytes.Equal(got, b) {
		t.Fatalf("%s: Load: %x, %d, %d, want %x, %d", what, got, m, e, b, n)
	}
}

// loadsNone asks that no slot of a pair is whole.
func loadsNone(t *testing.T, what string, p *slot.Pair) {
	t.Helper()
	if got, m, e := p.Load(); e != api.ErrNone || m != 0 || len(got) != 0 {
		t.Fatalf("%s: Load: %x, %d, %d, want ErrNone", what, got, m, e)
	}
}

// saves asks that bytes are saved with this number.
func saves(t *testing.T, p *slot.Pair, b []byte, n uint64) {
	t.Helper()
	if got, e := p.Save(b); got != n || e != api.OK {
		t.Fatalf("Save of %d bytes answers %d, %d, want %d", len(b), got, e, n)
	}
}

// wipes asks that bytes are wiped in with this number.
func wipes(t *testing.T, p *slot.Pair, b []byte, n uint64) {
	t.Helper()
	if got, e := p.Wipe(b); got != n || e != api.OK {
		t.Fatalf("Wipe of %d bytes answers %d, %d, want %d", len(b), got, e, n)
	}
}

// refused asks that a call answered this error, and nothing beside.
func refused(t *testing.T, what string, n uint64, e, want api.Errno) {
	t.Helper()
	if n != 0 || e != want {
		t.Errorf("%s answers %d, %d, want the error %d", what, n, e, want)
	}
}

// put writes sectors from a place on, and syncs.
func put(t *testing.T, d *disk.Disk, from int, l ...[]byte) {
	t.Helper()
	for i, s := range l {
		if e := d.Write(from+i, s); e != api.OK {
			t.Fatalf("Write(%d) answers %d", from+i, e)
		}
	}
	if e := d.Sync(); e != api.OK {
		t.Fatalf("Sync answers %d", e)
	}
}

// tear makes a sector one that can't be read.
func tear(t *testing.T, d *disk.Disk, at int) {
	t.Helper()
	d.Sync()
	d.Write(at, nil)
	d.Boot([]byte{2})
	if _, e := d.Read(at); e != api.ErrTorn {
		t.Fatalf("the sector %d isn't torn", at)
	}
}

// has asks that a disk has these sectors from a place on.
func has(t *testing.T, what string, d *disk.Disk, from int, l ...[]byte) {
	t.Helper()
	for i, want := range l {
		if got, e := d.Read(from + i); e != api.OK || !bytes.Equal(got, want) {
			t.Fatalf("%s: the sector %d: %x, %d, want %x", what, from+i, got, e, want)
		}
	}
}

// some answers so many bytes, by chance.
func some(seed int64, n int) []byte {
	b := make([]byte, n)
	rand.New(rand.NewSource(seed)).Read(b)
	return b
}

// blank answers so many sectors of bytes 00.
func blank(n int) [][]byte {
	l := make([][]byte, n)
	for i := range l {
		l[i] = make([]byte, 128)
	}
	return l
}

// filled writes bytes that aren't 00 to all sectors of a disk, with small numbers.
func filled(t *testing.T) *disk.Disk {
	t.Helper()
	d := disk.New()
	for at := range api.Sectors {
		s := bytes.Repeat([]byte{byte(at) | 1}, 128)
		binary.LittleEndian.PutUint64(s, 3)
		d.Write(at, s)
	}
	d.Sync()
	return d
}

func TestExample(t *testing.T) {
	d := disk.New()
	p := opened(t, d, 0, 4)
	saves(t, p, []byte("a"), 1)
	saves(t, p, []byte("b"), 2)
	loads(t, "saved", p, []byte("b"), 2)
	tear(t, d, 4)
	loads(t, "torn", p, []byte("a"), 1)
	if slot.Part != 104 {
		t.Errorf("Part is %d", slot.Part)
	}
}

func TestOpen(t *testing.T) {
	d := disk.New()
	ends := []struct{ from, k int }{{0, 1}, {0, 512}, {1, 511}, {2, 511}, {1022, 1}, {1020, 2}, {512, 256}, {0, 256}, {3, 7}, {1021, 1}}
	for _, x := range ends {
		loadsNone(t, "new", opened(t, d, x.from, x.k))
	}
	wrong := []struct{ from, k int }{
		{0, 0}, {0, -1}, {5, math.MinInt}, {1024, 0}, {-1, 1}, {-2, 1}, {-2, 513}, {math.MinInt, 1}, {math.MinInt, math.MaxInt},
		{0, 513}, {1, 512}, {2, 512}, {3, 511}, {1023, 1}, {1024, 1}, {1025, 1}, {1021, 2}, {2000, 1}, {math.MaxInt, 1}, {math.MaxInt - 1, 1},
		{0, math.MaxInt}, {0, 1 << 62}, {2, 1<<62 + 1}, {math.MaxInt, math.MaxInt}, {1024, math.MinInt}, {-1024, 1024}, {0, 1<<62 + 100},
	}
	for _, x := range wrong {
		if p, e := slot.Open(d, x.from, x.k); p != nil || e != api.ErrArg {
			t.Errorf("Open(%d, %d) answers %v, %d, want ErrArg", x.from, x.k, p, e)
		}
	}
	if p, e := slot.Open(nil, 0, 1); p != nil || e != api.ErrArg {
		t.Errorf("Open of no disk answers %v, %d, want ErrArg", p, e)
	}
	if d.Ops() != 0 {
		t.Error("Open, or Load, changes the disk")
	}
}

// Open and Load need no power, and change nothing.
func TestWithoutPower(t *testing.T) {
	d := disk.New()
	p := opened(t, d, 10, 3)
	saves(t, p, []byte("kept"), 1)
	d.Fuse(1)
	d.Write(0, nil)
	as := d.Raw()
	loads(t, "without power", p, []byte("kept"), 1)
	loads(t, "opened without power", opened(t, d, 10, 3), []byte("kept"), 1)
	n, e := p.Save([]byte("next"))
	refused(t, "Save without power", n, e, api.ErrCrash)
	n, e = p.Wipe([]byte("next"))
	refused(t, "Wipe without power", n, e, api.ErrCrash)
	n, e = p.Save(make([]byte, 313))
	refused(t, "Save of too many bytes without power", n, e, api.ErrLong)
	n, e = p.Wipe(make([]byte, 313))
	refused(t, "Wipe of too many bytes without power", n, e, api.ErrLong)
	if !bytes.Equal(d.Raw(), as) || d.Ops() != 3 {
		t.Error("without power the disk changes")
	}
	d.Boot(nil)
	saves(t, p, []byte("next"), 2)
	loads(t, "booted", p, []byte("next"), 2)
}

// Of each length: the sectors, to the last byte, and nothing beside.
func TestEachLength(t *testing.T) {
	for k := 1; k <= 4; k++ {
		d := filled(t)
		p := opened(t, d, 7, k)
		number := uint64(3)
		for size := range 104*k + 1 {
			b := some(int64(size), size)
			before := d.Raw()
			ops := d.Ops()
			number++
			saves(t, p, b, number)
			l := sectorsOf(number, b)
			at := 7 + k*(size%2)
			has(t, "laid", d, at, l...)
			want := slices.Concat(before[:at*128], slices.Concat(l...), before[(at+len(l))*128:])
			if !bytes.Equal(d.Raw(), want) {
				t.Fatalf("k %d, %d bytes: other sectors change", k, size)
			}
			if d.Ops() != ops+len(l)+1 {
				t.Fatalf("k %d, %d bytes: %d changes", k, size, d.Ops()-ops)
			}
			loads(t, "laid", p, b, number)
		}
	}
}

// A sector as it stands on the disk.
func TestOneSector(t *testing.T) {
	d := disk.New()
	saves(t, opened(t, d, 0, 3), append(make([]byte, 104), "abc"...), 1)
	want := append([]byte{
		1, 0, 0, 0, 0, 0, 0, 0, // the number
		1, 0, // the place
		2, 0, // parts
		107, 0, 0, 0, // bytes
	}, fingerprint(append(make([]byte, 104), "abc"...))...)
	want = append(want, 'a', 'b', 'c')
	has(t, "the second", d, 1, append(want, make([]byte, 101)...))
	d = disk.New()
	saves(t, opened(t, d, 0, 3), []byte("abc"), 1)
	want = []byte{1, 0, 0, 0, 0, 0, 0, 0, 0, 0, 1, 0, 3, 0, 0, 0, 0xba, 0x78, 0x16, 0xbf, 0x8f, 0x01, 0xcf, 0xea, 'a', 'b', 'c'}
	has(t, "abc", d, 0, append(want, make([]byte, 101)...))
	d = disk.New()
	saves(t, opened(t, d, 0, 3), nil, 1)
	want = []byte{1, 0, 0, 0, 0, 0, 0, 0, 0, 0, 1, 0, 0, 0, 0, 0, 0xe3, 0xb0, 0xc4, 0x42, 0x98, 0xfc, 0x1c, 0x14}
	has(t, "no bytes", d, 0, append(want, make([]byte, 104)...))
}

// fingerprint answers the first 8 bytes of the bytes' fingerprint.
func fingerprint(b []byte) []byte { return sectorsOf(0, b)[0][16:24] }

// The longest pair that there is.
func TestLongest(t *testing.T) {
	d := disk.New()
	p := opened(t, d, 0, 512)
	for n := uint64(1); n <= 3; n++ {
		b := some(int64(n), 104*512-int(n)+1)
		saves(t, p, b, n)
		has(t, "the longest", d, int(n+1)%2*512, sectorsOf(n, b)...)
		loads(t, "the longest", p, b, n)
	}
	n, e := p.Save(make([]byte, 104*512+1))
	refused(t, "Save of too many bytes", n, e, api.ErrLong)
	wipes(t, p, some(9, 104*511+1), 5)
	loads(t, "the longest", p, some(9, 104*511+1), 5)
}

// Too many bytes, and numbers that are spent: nothing changes. Bytes are looked at ahead of numbers.
func TestRefused(t *testing.T) {
	for k := 1; k <= 3; k++ {
		d := disk.New()
		p := opened(t, d, 3, k)
		saves(t, p, []byte("here"), 1)
		d.Fuse(1)
		as := d.Raw()
		for _, size := range []int{104*k + 1, 104*k + 2, 208*k + 1, 1 << 20} {
			n, e := p.Save(make([]byte, size))
			refused(t, "Save of too many bytes", n, e, api.ErrLong)
			n, e = p.Wipe(make([]byte, size))
			refused(t, "Wipe of too many bytes", n, e, api.ErrLong)
		}
		if d.Dead() || d.Ops() != 2 || !bytes.Equal(d.Raw(), as) {
			t.Error("what is refused changes the disk")
		}
		d.Fuse(0)
		for _, spent := range []uint64{api.Ceiling, api.Ceiling + 1, 1 << 63, math.MaxUint64 - 1, math.MaxUint64} {
			put(t, d, 3+2*k-1, sectorsOf(spent, nil)...)
			as, ops := d.Raw(), d.Ops()
			n, e := p.Save([]byte("next"))
			refused(t, "Save of spent numbers", n, e, api.ErrSpent)
			n, e = p.Wipe([]byte("next"))
			refused(t, "Wipe of spent numbers", n, e, api.ErrSpent)
			n, e = p.Save(make([]byte, 104*k+1))
			refused(t, "Save of too many bytes", n, e, api.ErrLong)
			if d.Ops() != ops || !bytes.Equal(d.Raw(), as) {
				t.Error("what is refused changes the disk")
			}
			dead := d.Copy()
			dead.Fuse(1)
			dead.Sync()
			n, e = opened(t, dead, 3, k).Save(nil)
			refused(t, "Save of spent numbers, without power", n, e, api.ErrSpent)
		}
	}
}

// The last number is the ceiling.
func TestCeiling(t *testing.T) {
	made := func(greatest uint64) (*disk.Disk, *slot.Pair) {
		d := disk.New()
		put(t, d, 1, sectorsOf(greatest, []byte("old"))...)
		return d, opened(t, d, 1, 2)
	}
	_, p := made(api.Ceiling - 2)
	saves(t, p, []byte("a"), api.Ceiling-1)
	saves(t, p, []byte("b"), api.Ceiling)
	loads(t, "the last one", p, []byte("b"), api.Ceiling)
	n, e := p.Save([]byte("c"))
	refused(t, "Save above the ceiling", n, e, api.ErrSpent)
	loads(t, "the last one", p, []byte("b"), api.Ceiling)
	_, p = made(api.Ceiling - 2)
	wipes(t, p, []byte("a"), api.Ceiling)
	loads(t, "wiped", p, []byte("a"), api.Ceiling)
	d, p := made(api.Ceiling - 1) // it is saved, and then there is no number to save it again
	n, e = p.Wipe([]byte("a"))
	refused(t, "Wipe above the ceiling", n, e, api.ErrSpent)
	loads(t, "saved once", p, []byte("a"), api.Ceiling)
	has(t, "saved once", d, 1, sectorsOf(api.Ceiling-1, []byte("old"))...)
	for _, n := range []uint64{api.Ceiling, 1 << 63, math.MaxUint64} { // a number may be any, where others laid it
		_, p = made(n)
		loads(t, "above", p, []byte("old"), n)
	}
	_, p = made(0)
	loads(t, "the number 0", p, []byte("old"), 0)
	saves(t, p, []byte("a"), 1)
	loads(t, "the number 1", p, []byte("a"), 1)
}

// A number is one above the greatest of any sector of both slots that can be read, and of none beside.
func TestNumbers(t *testing.T) {
	for at := range 10 {
		for _, greatest := range []uint64{0, 1, 2, 255, 256, 1 << 40, api.Ceiling - 1} {
			d := disk.New()
			put(t, d, 2, sectorsOf(1, []byte("old"))...)
			s := some(int64(at), 128)
			binary.LittleEndian.PutUint64(s, greatest)
			put(t, d, at, s) // the pair has the sectors 2 to 7
			p := opened(t, d, 2, 3)
			want := uint64(2)
			if at == 2 { // the old one is gone
				want = greatest + 1
			} else if at > 2 && at < 8 {
				want = max(2, greatest+1)
			}
			if at > 2 && at < 8 {
				c := d.Copy()
				tear(t, c, at)
				saves(t, opened(t, c, 2, 3), []byte("new"), 2)
			}
			saves(t, p, []byte("new"), want)
			loads(t, "new", p, []byte("new"), want)
		}
	}
}

// Slots take turns; what is behind the last part stays.
func TestTurns(t *testing.T) {
	d := disk.New()
	p := opened(t, d, 0, 3)
	l := [2][][]byte{blank(3), blank(3)}
	for n := range uint64(20) {
		b := some(int64(n), []int{300, 5, 150, 104, 208, 209, 0}[n%7])
		saves(t, p, b, n+1)
		copy(l[n%2], sectorsOf(n+1, b))
		for s := range 2 {
			has(t, "in turns", d, 3*s, l[s]...)
		}
		loads(t, "in turns", p, b, n+1)
		loads(t, "opened anew", opened(t, d, 0, 3), b, n+1)
	}
}

// Of two whole slots the one with the greater number counts, of both the same the slot 0; what isn't whole doesn't. The other one is written to.
func TestWhichCounts(t *testing.T) {
	numbers := []uint64{0, 1, 2, 255, 256, 1 << 32, api.Ceiling, 1 << 63, math.MaxUint64}
	for _, n := range numbers {
		for _, m := range numbers {
			d := disk.New()
			zero, one := some(1, 150), some(2, 250)
			put(t, d, 4, sectorsOf(n, zero)...)
			put(t, d, 7, sectorsOf(m, one)...)
			p := opened(t, d, 4, 3)
			b, number, other := zero, n, 7
			if m > n {
				b, number, other = one, m, 4
			}
			loads(t, "two", p, b, number)
			if number < api.Ceiling {
				c := d.Copy()
				saves(t, opened(t, c, 4, 3), []byte("new"), number+1)
				has(t, "two", c, other, sectorsOf(number+1, []byte("new"))...)
				has(t, "two", c, 11-other, sectorsOf(number, b)...)
			}
			tear(t, d, 5)
			loads(t, "the slot 1", p, one, m)
			if max(n, m) < api.Ceiling {
				c := d.Copy()
				saves(t, opened(t, c, 4, 3), []byte("new"), max(m, n)+1)
				has(t, "the slot 0", c, 4, sectorsOf(max(m, n)+1, []byte("new"))...)
			}
			tear(t, d, 9)
			loadsNone(t, "none", p)
			if max(n, m) < api.Ceiling {
				saves(t, p, []byte("new"), max(n, m)+1)
				has(t, "none", d, 4, sectorsOf(max(n, m)+1, []byte("new"))...)
			}
		}
	}
}

// Each bit of each sector turned: the slot isn't whole, unless the bit is behind the last part, or of a number that no other sector tells.
func TestEachBit(t *testing.T) {
	for _, size := range []int{0, 1, 100, 104, 105, 208, 250} {
		b := some(7, size)
		l := sectorsOf(9, b)
		for i, s := range l {
			for bit := range 128 * 8 {
				d := disk.New()
				put(t, d, 0, sectorsOf(4, []byte("old"))...)
				put(t, d, 3, l...)
				c := bytes.Clone(s)
				c[bit/8] ^= 1 << (bit % 8)
				put(t, d, 3+i, c)
				p := opened(t, d, 0, 3)
				switch number := binary.LittleEndian.Uint64(c); {
				case bit/8 >= 24+min(104, size-104*i):
					loads(t, "behind", p, b, 9)
				case len(l) > 1 || number == 9 || number < 4:
					loads(t, "turned", p, []byte("old"), 4)
				default:
					loads(t, "another number", p, b, number)
				}
			}
		}
	}
}

// A slot that has other parts than it tells isn't whole, though all else fits.
func TestNotWhole(t *testing.T) {
	b := some(3, 250)
	l := sectorsOf(9, b)
	set := func(i, at int, value byte) [][]byte {
		c := [][]byte{bytes.Clone(l[0]), bytes.Clone(l[1]), bytes.Clone(l[2])}
		for j := range c {
			if i < 0 || i == j {
				c[j][at] = value
			}
		}
		return c
	}
	wrong := map[string][][]byte{
		"nothing":           blank(3),
		"no bytes, 0 parts": {append(make([]byte, 16), fingerprint(nil)...)},
		"turned about":      {l[0], l[2], l[1]},
		"twice":             {l[0], l[1], l[1]},
		"the first twice":   {l[0], l[0], l[2]},
		"behind":            {l[1], l[2], l[0]},
		"lost":              {l[0], l[1]},
		"another number":    set(1, 0, 8),
		"a number above":    set(2, 7, 1),
		"another place":     set(0, 8, 1),
		"a place above":     set(2, 9, 1),
		"fewer parts":       set(-1, 10, 2),
		"more parts":        set(-1, 10, 4),
		"no parts":          set(-1, 10, 0),
		"many parts":        set(-1, 11, 255),
		"fewer bytes":       set(-1, 12, 249),
		"more bytes":        set(-1, 12, 251),
		"bytes of 2 parts":  set(-1, 12, 208),
		"many bytes":        set(-1, 15, 255),
		"a fingerprint":     set(-1, 16, l[0][16]+1),
		"its last byte":     set(-1, 23, l[0][23]+1),
		"one fingerprint":   set(2, 23, l[0][23]+1),
		"other bytes":       set(1, 60, l[1][60]+1),
	}
	for what, c := range wrong {
		d := disk.New()
		put(t, d, 20, c...)
		p := opened(t, d, 20, 4)
		loadsNone(t, what, p)
		put(t, d, 24, sectorsOf(1, []byte("old"))...)
		loads(t, what, p, []byte("old"), 1)
	}
	d := disk.New()
	put(t, d, 20, l...)
	loads(t, "whole", opened(t, d, 20, 3), b, 9)
	loads(t, "whole, of more sectors", opened(t, d, 20, 100), b, 9)
	loadsNone(t, "more parts than sectors", opened(t, d, 20, 2))
	loadsNone(t, "more parts than sectors", opened(t, d, 20, 1))
}

// Parts as many as so many bytes have: neither fewer nor more, be the fingerprint right.
func TestPartsOfBytes(t *testing.T) {
	for _, size := range []int{0, 1, 103, 104, 105, 207, 208, 209, 312} {
		b := make([]byte, size)
		right := len(sectorsOf(1, b))
		for parts := range 7 {
			d := disk.New()
			for i := range max(parts, right) {
				s := append([]byte{1, 0, 0, 0, 0, 0, 0, 0, byte(i), 0, byte(parts), 0, byte(size), byte(size >> 8), 0, 0}, fingerprint(b)...)
				put(t, d, i, s)
			}
			p := opened(t, d, 0, 6)
			if parts == right {
				loads(t, "as many", p, b, 1)
			} else {
				loadsNone(t, "fewer, or more", p)
			}
		}
	}
}

// A sector that can't be read ends its slot, if it is of its parts.
func TestTorn(t *testing.T) {
	for at := range 8 {
		d := disk.New()
		p := opened(t, d, 0, 4)
		saves(t, p, some(1, 400), 1)
		saves(t, p, some(2, 300), 2)
		tear(t, d, at)
		switch {
		case at < 4 || at == 7:
			loads(t, "torn", p, some(2, 300), 2)
			saves(t, p, []byte("new"), 3)
			has(t, "torn", d, 0, sectorsOf(3, []byte("new"))...)
		default:
			loads(t, "torn", p, some(1, 400), 1)
			n := uint64(3) // the other sectors tell that there was one
			saves(t, p, []byte("new"), n)
			has(t, "torn", d, 4, sectorsOf(n, []byte("new"))...)
		}
		loads(t, "torn", p, []byte("new"), 3)
	}
	d := disk.New()
	p := opened(t, d, 0, 1)
	saves(t, p, []byte("a"), 1)
	saves(t, p, []byte("b"), 2)
	tear(t, d, 1)
	saves(t, p, []byte("c"), 2) // nothing tells of the 2
	loads(t, "torn", p, []byte("c"), 2)
}

// Wipe: b twice, and nothing else in the pair's sectors; nothing beside them.
func TestWipe(t *testing.T) {
	for k := 1; k <= 4; k++ {
		for size := range 104*k + 1 {
			b := some(int64(size), size)
			d := filled(t)
			p := opened(t, d, 9, k)
			at := 9
			if size%3 > 0 { // the slot 0, or both, are whole
				put(t, d, 9, sectorsOf(3, some(1, 104*k))...)
				at = 9 + k
			}
			if size%3 > 1 {
				put(t, d, 9+k, sectorsOf(2, some(2, 104*k))...)
			}
			before, ops := d.Raw(), d.Ops()
			wipes(t, p, b, 5)
			for j, from := range []int{at, 18 + k - at} {
				l := sectorsOf(uint64(4+j), b)
				has(t, "wiped", d, from, append(l, blank(k-len(l))...)...)
			}
			after := d.Raw()
			if !bytes.Equal(after[:9*128], before[:9*128]) || !bytes.Equal(after[(9+2*k)*128:], before[(9+2*k)*128:]) {
				t.Fatal("Wipe changes other sectors")
			}
			if d.Ops() != ops+2*k+2 {
				t.Fatalf("Wipe of %d sectors has %d changes", k, d.Ops()-ops)
			}
			loads(t, "wiped", p, b, 5)
			d.Boot([]byte{2}) // all is safe
			loads(t, "booted", p, b, 5)
			tear(t, d, 18+k-at)
			loads(t, "the first one", p, b, 4)
		}
	}
}

// Torn sectors, and those of other numbers, are wiped too.
func TestWipeTorn(t *testing.T) {
	d := filled(t)
	for at := 10; at < 18; at += 3 {
		tear(t, d, at)
	}
	p := opened(t, d, 10, 4)
	wipes(t, p, []byte("b"), 5)
	has(t, "wiped", d, 10, append(sectorsOf(4, []byte("b")), blank(3)...)...)
	has(t, "wiped", d, 14, append(sectorsOf(5, []byte("b")), blank(3)...)...)
}

// Parts are written by rising places, then what is behind them in a Wipe, then they are synced.
func TestOrderOfChanges(t *testing.T) {
	const k = 4
	b, old := some(1, 230), some(2, 400)
	made := func() (*disk.Disk, *slot.Pair) {
		d := filled(t)
		p := opened(t, d, 30, k)
		saves(t, p, old, 4)
		return d, p
	}
	for fuse := 1; fuse <= 4; fuse++ {
		d, p := made()
		before := d.Copy()
		d.Fuse(fuse)
		n, e := p.Save(b)
		refused(t, "Save", n, e, api.ErrCrash)
		for i := range min(fuse, 3) {
			before.Write(30+k+i, sectorsOf(5, b)[i])
		}
		if !bytes.Equal(d.Raw(), before.Raw()) {
			t.Fatalf("Save: %d changes were others", fuse)
		}
		d.Boot(nil) // none of it was safe
		loads(t, "lost", p, old, 4)
	}
	l := append(sectorsOf(5, b), make([]byte, 128))
	m := append(sectorsOf(6, b), make([]byte, 128))
	for fuse := 1; fuse <= 2*(k+1); fuse++ {
		d, p := made()
		before := d.Copy()
		d.Fuse(fuse)
		n, e := p.Wipe(b)
		refused(t, "Wipe", n, e, api.ErrCrash)
		for i := range min(fuse, k) {
			before.Write(30+k+i, l[i])
		}
		for i := range min(max(fuse-k-1, 0), k) {
			before.Write(30+i, m[i])
		}
		if !bytes.Equal(d.Raw(), before.Raw()) {
			t.Fatalf("Wipe: %d changes were others", fuse)
		}
		d.Boot(nil)
		if fuse <= k+1 {
			loads(t, "lost", p, old, 4)
		} else {
			loads(t, "saved once", p, b, 5)
		}
	}
	d, p := made()
	d.Fuse(2*(k+1) + 1)
	wipes(t, p, b, 6)
}

// fates answers all lists of n fates.
func fates(n int) [][]byte {
	l := [][]byte{{}}
	for range n {
		var next [][]byte
		for _, f := range l {
			for fate := range byte(3) {
				next = append(next, append(slices.Clone(f), fate))
			}
		}
		l = next
	}
	return l
}

// Whenever the power goes off in a Save, whatever was there: what is there is old or new, and the next one is saved.
func TestPowerGoesOff(t *testing.T) {
	const k = 3
	starts := map[string]func(d *disk.Disk, p *slot.Pair){
		"none":  func(d *disk.Disk, p *slot.Pair) {},
		"one":   func(d *disk.Disk, p *slot.Pair) { saves(t, p, some(1, 300), 1) },
		"two":   func(d *disk.Disk, p *slot.Pair) { saves(t, p, some(1, 300), 1); saves(t, p, some(2, 250), 2) },
		"three": func(d *disk.Disk, p *slot.Pair) { saves(t, p, nil, 1); saves(t, p, nil, 2); saves(t, p, nil, 3) },
		"same numbers": func(d *disk.Disk, p *slot.Pair) {
			put(t, d, 0, sectorsOf(8, some(1, 300))...)
			put(t, d, 3, sectorsOf(8, some(2, 300))...)
		},
		"wiped": func(d *disk.Disk, p *slot.Pair) { wipes(t, p, some(1, 200), 2) },
		"spoilt": func(d *disk.Disk, p *slot.Pair) {
			saves(t, p, some(1, 300), 1)
			saves(t, p, some(2, 300), 2)
			tear(t, d, 1)
			tear(t, d, 4)
		},
	}
	for what, start := range starts {
		for _, size := range []int{0, 104, 105, 209, 312} {
			b := some(9, size)
			for _, wiping := range []bool{false, true} {
				base := disk.New()
				start(base, opened(t, base, 0, k))
				old, _, was := tell(base, 0, k)
				done := false
				for fuse := 1; !done; fuse++ {
					done = goOff(t, what, base, k, fuse, b, wiping, old, was >= 0)
				}
			}
		}
	}
}

// goOff burns the fuse within a Save or a Wipe of b, and tells whether there was none to burn; whatever the fates, what is loaded is old or new.
func goOff(t *testing.T, what string, base *disk.Disk, k, fuse int, b []byte, wiping bool, old []byte, was bool) bool {
	t.Helper()
	off := base.Copy()
	off.Fuse(fuse)
	p := opened(t, off, 0, k)
	save := p.Save
	if wiping {
		save = p.Wipe
	}
	if n, e := save(b); e == api.OK {
		loads(t, what, p, b, n)
		return true
	} else {
		refused(t, what, n, e, api.ErrCrash)
	}
	for _, f := range fates(k) {
		d := off.Copy()
		d.Boot(f)
		p := opened(t, d, 0, k)
		got, n, e := p.Load()
		switch {
		case e == api.ErrNone && !was:
		case e == api.OK && (was && bytes.Equal(got, old) || bytes.Equal(got, b)):
		default:
			t.Fatalf("%s, fuse %d, fates %v: Load: %x, %d, %d", what, fuse, f, got, n, e)
		}
		if m, e := p.Save([]byte("next")); e != api.OK || m <= n {
			t.Fatalf("%s, fuse %d, fates %v: Save answers %d, %d", what, fuse, f, m, e)
		}
		if got, _, e := p.Load(); e != api.OK || string(got) != "next" {
			t.Fatalf("%s, fuse %d, fates %v: Load: %q, %d", what, fuse, f, got, e)
		}
	}
	return false
}

// Parts that an earlier Save left behind, when the power went off, are never taken for those of a later one.
func TestLeftBehind(t *testing.T) {
	one, two := make([]byte, 312), make([]byte, 312)
	one[300], two[5] = 1, 1 // parts 1 are the same, and of the same place
	for _, first := range fates(3) {
		for _, second := range fates(3) {
			d := disk.New()
			p := opened(t, d, 0, 3)
			saves(t, p, []byte("old"), 1)
			for _, x := range []struct{ b, fates []byte }{{one, first}, {two, second}} {
				d.Fuse(4)
				_, _ = p.Save(x.b)
				d.Boot(x.fates)
			}
			got, _, e := p.Load()
			want := []byte("old")
			if slices.Equal(second, []byte{1, 1, 1}) {
				want = two
			} else if slices.Equal(first, []byte{1, 1, 1}) {
				want = one // then the second went to the other slot
			}
			if e != api.OK || !bytes.Equal(got, want) {
				t.Fatalf("%v, %v: Load: %x, %d, want %x", first, second, got, e, want)
			}
		}
	}
}

// All that a pair knows is on its disk: what others do there counts at once.
func TestOthers(t *testing.T) {
	d := disk.New()
	p, q := opened(t, d, 5, 2), opened(t, d, 5, 2)
	saves(t, p, []byte("a"), 1)
	loads(t, "the other", q, []byte("a"), 1)
	saves(t, q, []byte("b"), 2)
	saves(t, p, []byte("c"), 3)
	loads(t, "the other", q, []byte("c"), 3)
	c := d.Copy()
	saves(t, q, []byte("d"), 4)
	loads(t, "the one", p, []byte("d"), 4)
	loads(t, "a copy", opened(t, c, 5, 2), []byte("c"), 3)
	for at := range api.Sectors {
		d.Write(at, nil)
	}
	loadsNone(t, "wiped by others", p)
	saves(t, p, []byte("e"), 1)
	beside, behind := opened(t, d, 3, 1), opened(t, d, 9, 1)
	saves(t, beside, []byte("f"), 1)
	saves(t, behind, []byte("g"), 1)
	saves(t, beside, []byte("h"), 2)
	saves(t, behind, []byte("i"), 2)
	loads(t, "between", p, []byte("e"), 1)
	wipes(t, p, some(1, 208), 3)
	loads(t, "beside", beside, []byte("h"), 2)
	loads(t, "behind", behind, []byte("i"), 2)
}

func TestNil(t *testing.T) {
	var zero slot.Pair
	for _, p := range []*slot.Pair{nil, &zero} {
		loadsNone(t, "none", p)
		for _, b := range [][]byte{nil, {}, {1}, make([]byte, 1<<17)} {
			n, e := p.Save(b)
			refused(t, "Save of none", n, e, api.ErrCrash)
			n, e = p.Wipe(b)
			refused(t, "Wipe of none", n, e, api.ErrCrash)
		}
	}
}

// What is handed in is neither changed nor kept; what is answered may be written over.
func TestMemory(t *testing.T) {
	for _, size := range []int{0, 5, 104, 150, 208} {
		memory := some(1, 300)
		d := disk.New()
		p := opened(t, d, 0, 2)
		for _, save := range []func([]byte) (uint64, api.Errno){p.Save, p.Wipe} {
			if _, e := save(memory[20 : 20+size]); e != api.OK {
				t.Fatalf("%d bytes: the error %d", size, e)
			}
			if !bytes.Equal(memory, some(1, 300)) {
				t.Fatal("what is handed in changes")
			}
		}
		clear(memory)
		want := some(1, 300)[20 : 20+size]
		loads(t, "handed in memory is cleared", p, want, 3)
		got, _, _ := p.Load()
		other, _, _ := p.Load()
		raw := d.Raw()
		clear(got[:cap(got)])
		if !bytes.Equal(other, want) || !bytes.Equal(d.Raw(), raw) {
			t.Fatal("an answer shares memory")
		}
		loads(t, "an answer is cleared", p, want, 3)
	}
}

// The same calls, the same disks.
func TestSameCallsSameDisks(t *testing.T) {
	run := func() []byte {
		d := disk.New()
		p := opened(t, d, 100, 40)
		for i := range 30 {
			_, _ = p.Save(some(int64(i), i*140))
		}
		_, _ = p.Wipe(some(50, 3000))
		return d.Raw()
	}
	if !bytes.Equal(run(), run()) {
		t.Error("the same calls make other disks")
	}
}
