package slot_test

import (
	"bytes"
	"crypto/sha256"
	"encoding/binary"
	"math"
	"math/rand"
	"testing"

	"quaestor/api"
	"quaestor/disk"
	"quaestor/slot"
)

// sectorsOf answers the sectors of bytes that are laid with a number, as the chapter tells it.
func sectorsOf(number uint64, b []byte) [][]byte {
	parts := (len(b) + 103) / 104
	if len(b) == 0 {
		parts = 1
	}
	sum := sha256.Sum256(b)
	var l [][]byte
	for i := range parts {
		s := make([]byte, 128)
		binary.LittleEndian.PutUint64(s, number)
		binary.LittleEndian.PutUint16(s[8:], uint16(i))
		binary.LittleEndian.PutUint16(s[10:], uint16(parts))
		binary.LittleEndian.PutUint32(s[12:], uint32(len(b)))
		copy(s[16:24], sum[:8])
		copy(s[24:], b[104*i:])
		l = append(l, s)
	}
	return l
}

// tellSlot answers what a slot has that is whole, as the chapter tells it.
func tellSlot(d *disk.Disk, from, k int) (b []byte, number uint64, ok bool) {
	first, e := d.Read(from)
	if e != api.OK {
		return nil, 0, false
	}
	parts, size := int(binary.LittleEndian.Uint16(first[10:])), int(binary.LittleEndian.Uint32(first[12:]))
	if parts < 1 || parts > k {
		return nil, 0, false
	}
	if size == 0 && parts != 1 || size != 0 && (size <= 104*(parts-1) || size > 104*parts) {
		return nil, 0, false
	}
	for i := range parts {
		s, e := d.Read(from + i)
		if e != api.OK || !bytes.Equal(s[:8], first[:8]) || !bytes.Equal(s[10:24], first[10:24]) || int(s[8])+int(s[9])*256 != i {
			return nil, 0, false
		}
		b = append(b, s[24:]...)
	}
	b = b[:size]
	sum := sha256.Sum256(b)
	return b, binary.LittleEndian.Uint64(first), bytes.Equal(sum[:8], first[16:24])
}

// tell answers the pair's bytes, their number and their slot; -1, if none is whole.
func tell(d *disk.Disk, from, k int) ([]byte, uint64, int) {
	b, n, ok := tellSlot(d, from, k)
	c, m, other := tellSlot(d, from+k, k)
	switch {
	case ok && (!other || n >= m):
		return b, n, 0
	case other:
		return c, m, 1
	}
	return nil, 0, -1
}

// tellSave does what a Save does, or a half of a Wipe.
func tellSave(d *disk.Disk, from, k int, b []byte, wipes bool) (uint64, api.Errno) {
	if len(b) > 104*k {
		return 0, api.ErrLong
	}
	number := uint64(0)
	for at := from; at < from+2*k; at++ {
		if s, e := d.Read(at); e == api.OK {
			number = max(number, binary.LittleEndian.Uint64(s))
		}
	}
	if number > 1<<62-1 {
		return 0, api.ErrSpent
	}
	number++
	if _, _, s := tell(d, from, k); s == 0 {
		from += k
	}
	l := sectorsOf(number, b)
	for wipes && len(l) < k {
		l = append(l, make([]byte, 128))
	}
	for i, s := range l {
		if e := d.Write(from+i, s); e != api.OK {
			return 0, e
		}
	}
	if e := d.Sync(); e != api.OK {
		return 0, e
	}
	return number, api.OK
}

// tellWipe does what a Wipe does.
func tellWipe(d *disk.Disk, from, k int, b []byte) (uint64, api.Errno) {
	if _, e := tellSave(d, from, k, b, true); e != api.OK {
		return 0, e
	}
	return tellSave(d, from, k, b, true)
}

// sameDisk asks that two disks are the same, as far as can be seen of their sectors from a place to another one.
func sameDisk(t *testing.T, what string, d, want *disk.Disk, from, to int) {
	t.Helper()
	if d.Dead() != want.Dead() || d.Ops() != want.Ops() {
		t.Fatalf("%s: Dead %t, Ops %d, want %t, %d", what, d.Dead(), d.Ops(), want.Dead(), want.Ops())
	}
	for at := from; at < to; at++ {
		b, e := d.Read(at)
		c, f := want.Read(at)
		if e != f || !bytes.Equal(b, c) {
			t.Fatalf("%s: Read(%d): %x, %d, want %x, %d", what, at, b, e, c, f)
		}
	}
}

// asTold asks that Load answers what the chapter tells.
func asTold(t *testing.T, what string, p *slot.Pair, d *disk.Disk, from, k int) {
	t.Helper()
	b, n, s := tell(d, from, k)
	if s < 0 {
		loadsNone(t, what, p)
		return
	}
	loads(t, what, p, b, n)
}

// drawn answers so many bytes, or fewer.
func drawn(r *rand.Rand, most int) []byte {
	b := make([]byte, r.Intn(most+1))
	r.Read(b)
	return b
}

// spoil writes to the pair's sectors as others do: a turned bit, a sector of another place, bytes of any kind, or a great number.
func spoil(r *rand.Rand, d, want *disk.Disk, from, k int) {
	at := from - 1 + r.Intn(2*k+2)
	b, e := d.Read(at)
	if e != api.OK {
		b = make([]byte, 128)
	}
	switch r.Intn(8) {
	case 0, 1:
		b[r.Intn(len(b))] ^= 1 << r.Intn(8)
	case 2, 3:
		if c, e := d.Read(from + r.Intn(2*k)); e == api.OK {
			b = c
		}
	case 4:
		b = drawn(r, 24)
	case 5:
		b = nil
	case 6:
		b = sectorsOf(uint64(r.Intn(20)), drawn(r, 104))[0]
	case 7:
		if r.Intn(10) == 0 {
			n := []uint64{1<<62 - 2, 1<<62 - 1, 1 << 62, math.MaxUint64}[r.Intn(4)]
			binary.LittleEndian.PutUint64(b, n)
		}
	}
	d.Write(at, b)
	want.Write(at, b)
	if r.Intn(2) == 0 {
		d.Sync()
		want.Sync()
	}
}

// Moves by chance, of a pair and of what is told of it: bytes are saved and wiped, the power goes off and comes back, others write.
func TestScripts(t *testing.T) {
	for seed := range 150 {
		r := rand.New(rand.NewSource(int64(seed)))
		k := 1 + r.Intn(5)
		from := 1 + r.Intn(api.Sectors-2*k-1)
		d := disk.New()
		want := d.Copy()
		p := opened(t, d, from, k)
		for range 120 {
			b := drawn(r, 104*k+1)
			var n, m uint64
			var e, f api.Errno
			switch r.Intn(12) {
			case 0, 1, 2, 3:
				n, e = p.Save(b)
				m, f = tellSave(want, from, k, b, false)
			case 4, 5:
				n, e = p.Wipe(b)
				m, f = tellWipe(want, from, k, b)
			case 6:
				spoil(r, d, want, from, k)
			case 7, 8, 9:
				fuse := r.Intn(3 * k)
				d.Fuse(fuse)
				want.Fuse(fuse)
			default:
				fates := drawn(r, 2*k)
				d.Boot(fates)
				want.Boot(fates)
			}
			if n != m || e != f {
				t.Fatalf("seed %d: answers %d, %d, want %d, %d", seed, n, e, m, f)
			}
			sameDisk(t, "by chance", d, want, from-1, from+2*k+1)
			asTold(t, "by chance", p, d, from, k)
		}
		sameDisk(t, "by chance", d, want, 0, api.Sectors)
	}
}

// From disks of any bytes: Load tells one of the slots that are whole, and a Save goes on from there.
func TestSpoiltDisks(t *testing.T) {
	for seed := range 400 {
		r := rand.New(rand.NewSource(int64(seed)))
		k := 1 + r.Intn(4)
		d := disk.New()
		for at := range 2 * k {
			d.Write(5+at, drawn(r, 128))
		}
		for range r.Intn(3) {
			l := sectorsOf(uint64(r.Intn(4)), drawn(r, 104*k))
			at := 5 + r.Intn(2)*k
			for i, s := range l {
				d.Write(at+i, s)
			}
		}
		d.Boot(drawn(r, 9)) // some are torn
		want := d.Copy()
		p := opened(t, d, 5, k)
		asTold(t, "spoilt", p, d, 5, k)
		b := drawn(r, 104*k)
		n, e := p.Save(b)
		m, f := tellSave(want, 5, k, b, false)
		if n != m || e != f {
			t.Fatalf("seed %d: Save answers %d, %d, want %d, %d", seed, n, e, m, f)
		}
		sameDisk(t, "spoilt", d, want, 0, api.Sectors)
		if e == api.OK {
			loads(t, "saved", p, b, n)
		}
	}
}
