package journal_test

import (
	"bytes"
	"encoding/binary"
	"math/rand"
	"slices"
	"testing"

	"quaestor/api"
	"quaestor/disk"
	"quaestor/journal"
	"quaestor/slot"
)

// sectorsOf answers the sectors of a record that is laid with an epoch and a number, as the chapter tells it.
func sectorsOf(epoch uint64, number int, b []byte) [][]byte {
	parts := (len(b) + 107) / 108
	if len(b) == 0 {
		parts = 1
	}
	var l [][]byte
	for i := range parts {
		s := make([]byte, 128)
		binary.LittleEndian.PutUint64(s, epoch)
		binary.LittleEndian.PutUint32(s[8:], uint32(number))
		binary.LittleEndian.PutUint16(s[12:], uint16(i))
		binary.LittleEndian.PutUint16(s[14:], uint16(parts))
		binary.LittleEndian.PutUint32(s[16:], uint32(len(b)))
		copy(s[20:], b[108*i:])
		l = append(l, s)
	}
	return l
}

// laid answers the sectors of all records of an epoch, one behind the other.
func laid(epoch uint64, records ...[]byte) [][]byte {
	var l [][]byte
	for i, b := range records {
		l = append(l, sectorsOf(epoch, i, b)...)
	}
	return l
}

// tellRecord answers the record that stands at a sector, and how many sectors it has; 0, if the record that is next doesn't stand there.
func tellRecord(d *disk.Disk, at int, epoch uint64, number int) ([]byte, int) {
	s, e := d.Read(at)
	if e != api.OK {
		return nil, 0
	}
	size := int(binary.LittleEndian.Uint32(s[16:]))
	if size > 512*108 { // there are not as many sectors
		return nil, 0
	}
	b := []byte{}
	heads := sectorsOf(epoch, number, make([]byte, size))
	for i, h := range heads {
		s, e := d.Read(at + i)
		if e != api.OK || !bytes.Equal(s[:20], h[:20]) {
			return nil, 0
		}
		b = append(b, s[20:]...)
	}
	return b[:size], len(heads)
}

// tell answers the image and the records that a disk has, as the chapter tells it.
func tell(d *disk.Disk) (image []byte, records [][]byte, e api.Errno) {
	p, _ := slot.Open(d, 0, 256)
	image, epoch, e := p.Load()
	for at := 512; e == api.OK; {
		b, n := tellRecord(d, at, epoch, len(records))
		if n == 0 {
			break
		}
		records = append(records, b)
		at += n
	}
	return image, records, e
}

// told is a store as the chapter tells it.
type told struct {
	d     *disk.Disk
	fresh bool
	epoch uint64
	laid  [][]byte // the sectors of the records since the image was saved
	count int
}

// saved is what holds behind the saving of an image.
func (s *told) saved(epoch uint64, e api.Errno) api.Errno {
	*s = told{d: s.d, fresh: e == api.OK, epoch: epoch}
	return e
}

func (s *told) save(image []byte) api.Errno {
	p, _ := slot.Open(s.d, 0, 256)
	return s.saved(p.Save(image))
}

func (s *told) scrub(image []byte) api.Errno {
	p, _ := slot.Open(s.d, 0, 256)
	epoch, e := p.Wipe(image)
	for at := 512; at < 1024 && e == api.OK; at++ {
		if b, torn := s.d.Read(at); torn != api.OK || !bytes.Equal(b, make([]byte, 128)) {
			e = s.d.Write(at, nil)
		}
	}
	if e == api.OK {
		e = s.d.Sync()
	}
	return s.saved(epoch, e)
}

func (s *told) add(record []byte) api.Errno {
	switch next := sectorsOf(s.epoch, s.count, record); {
	case !s.fresh:
		return api.ErrStale
	case len(record) > 4096:
		return api.ErrLong
	case len(s.laid)+len(next) > 512:
		return api.ErrFull
	default:
		e := api.OK
		for i := 0; i < len(next) && e == api.OK; i++ {
			e = s.d.Write(512+len(s.laid)+i, next[i])
		}
		if e == api.OK {
			e = s.d.Sync()
		}
		s.fresh = e == api.OK
		s.laid = append(s.laid, next...)
		s.count++
		return e
	}
}

func (s *told) room() int {
	if !s.fresh {
		return 0
	}
	return min(4096, (512-len(s.laid))*108)
}

// sameDisk asks that two disks are the same, as far as can be read, and had as many changes.
func sameDisk(t *testing.T, what string, d, want *disk.Disk) {
	t.Helper()
	if d.Dead() != want.Dead() || d.Ops() != want.Ops() {
		t.Fatalf("%s: Dead, Ops: %t, %d, want %t, %d", what, d.Dead(), d.Ops(), want.Dead(), want.Ops())
	}
	for at := range api.Sectors {
		b, e := d.Read(at)
		c, f := want.Read(at)
		if e != f || !bytes.Equal(b, c) {
			t.Fatalf("%s: Read(%d): %x, %d, want %x, %d", what, at, b, e, c, f)
		}
	}
}

// drawn answers so many bytes, or fewer.
func drawn(r *rand.Rand, most int) []byte {
	b := make([]byte, r.Intn(most+1))
	r.Read(b)
	return b
}

// both writes to the same sector of two disks.
func both(d, want *disk.Disk, at int, b []byte) {
	d.Write(at, b)
	want.Write(at, b)
}

// spoil writes to two disks as others do: a turned bit, a sector of another place, bytes of any kind, a record, an image's great number.
func spoil(r *rand.Rand, d, want *disk.Disk, epoch uint64) {
	at := 512 + r.Intn(20)
	switch r.Intn(9) {
	case 0, 1:
		if b, e := d.Read(at); e == api.OK {
			b[r.Intn(len(b))] ^= 1 << r.Intn(8)
			both(d, want, at, b)
		}
	case 2, 3:
		if b, e := d.Read(512 + r.Intn(20)); e == api.OK {
			both(d, want, at, b)
		}
	case 4:
		both(d, want, at, drawn(r, 128))
	case 5:
		both(d, want, 1023-r.Intn(500), drawn(r, 128))
	case 6:
		for i, b := range sectorsOf(epoch+uint64(r.Intn(3)), r.Intn(4), drawn(r, 250)) {
			both(d, want, at+i, b)
		}
	case 7:
		for i, b := range laid(epoch+1, drawn(r, 250), drawn(r, 250)) {
			both(d, want, 512+i, b)
		}
	case 8:
		if r.Intn(12) == 0 {
			both(d, want, r.Intn(512), binary.LittleEndian.AppendUint64(nil, api.Ceiling-uint64(r.Intn(3))))
		}
	}
	if r.Intn(2) == 0 {
		d.Sync()
		want.Sync()
	}
}

// move does one move by chance, to a store and to what is told of it, and asks that both answer the same.
func move(t *testing.T, r *rand.Rand, s *journal.Store, d *disk.Disk, want *told) {
	t.Helper()
	e, f := api.OK, api.OK
	switch r.Intn(16) {
	case 0:
		b := drawn(r, 500)
		e, f = s.Save(b), want.save(b)
	case 1:
		if r.Intn(4) == 0 {
			b := drawn(r, 500)
			e, f = s.Scrub(b), want.scrub(b)
		}
	case 2:
		b := make([]byte, 26623+r.Intn(3))
		e, f = s.Save(b), want.save(b)
	case 3:
		b := make([]byte, 4090+r.Intn(10))
		e, f = s.Append(b), want.add(b)
	case 4:
		spoil(r, d, want.d, want.epoch)
	case 5:
		fuse := r.Intn(12)
		d.Fuse(fuse)
		want.d.Fuse(fuse)
	case 6, 7:
		fates := drawn(r, 6)
		d.Boot(fates)
		want.d.Boot(fates)
	default:
		b := drawn(r, 400)
		e, f = s.Append(b), want.add(b)
	}
	if e != f {
		t.Fatalf("answers %d, want %d", e, f)
	}
}

// Moves by chance, of a store and of what is told of it: images are saved, records appended, the power goes off and comes back, others write, stores are opened.
func TestScripts(t *testing.T) {
	seen := map[api.Errno]int{}
	for seed := range 80 {
		r := rand.New(rand.NewSource(int64(seed)))
		d := disk.New()
		want := &told{d: d.Copy()}
		s := opened(t, d)
		for i := range 150 {
			if r.Intn(30) == 0 {
				s, want = opened(t, d), &told{d: want.d}
			}
			move(t, r, s, d, want)
			if s.Room() != want.room() {
				t.Fatalf("seed %d: Room is %d, want %d", seed, s.Room(), want.room())
			}
			image, records, e := s.Recover()
			b, l, f := tell(want.d)
			seen[e]++
			if e != f || !bytes.Equal(image, b) || !slices.EqualFunc(records, l, bytes.Equal) {
				t.Fatalf("seed %d, move %d: Recover: %x, %x, %d, want %x, %x, %d", seed, i, image, records, e, b, l, f)
			}
		}
		sameDisk(t, "by chance", d, want.d)
		d.Boot([]byte{1, 2, 0, 1}) // what is safe is the same too
		want.d.Boot([]byte{1, 2, 0, 1})
		sameDisk(t, "by chance, booted", d, want.d)
	}
	if seen[api.OK] < 4000 {
		t.Errorf("an image is there at few moves: %v", seen)
	}
}
