package disk_test

import (
	"bytes"
	"math"
	"math/rand"
	"testing"

	"quaestor/api"
	"quaestor/disk"
)

// state is what a sector is, or was when it was safe.
type state struct {
	b    [128]byte
	torn bool
}

// told is a disk as the chapter tells it: each sector is something, was something when it was safe, and may be loose.
type told struct {
	is, was [1024]state
	loose   [1024]bool
	dead    bool
	fuse    int
	ops     int
}

// change counts a change, and tells whether it burns the fuse.
func (d *told) change() bool {
	d.ops++
	if d.fuse > 0 {
		d.fuse--
		d.dead = d.fuse == 0
	}
	return d.dead
}

func (d *told) write(at int, b []byte) api.Errno {
	if d.dead {
		return api.ErrCrash
	}
	if at < 0 || at > 1023 {
		return api.ErrArg
	}
	if len(b) > 128 {
		return api.ErrLong
	}
	d.is[at] = state{}
	for i, x := range b {
		d.is[at].b[i] = x
	}
	d.loose[at] = true
	if d.change() {
		return api.ErrCrash
	}
	return api.OK
}

func (d *told) sync() api.Errno {
	if d.dead || d.change() {
		return api.ErrCrash
	}
	d.was = d.is
	d.loose = [1024]bool{}
	return api.OK
}

func (d *told) setFuse(n int) api.Errno {
	if d.dead {
		return api.ErrCrash
	}
	d.fuse = 0
	if n >= 1 {
		d.fuse = n
	}
	return api.OK
}

func (d *told) boot(fates []byte) {
	j := 0
	for at := range d.loose {
		if !d.loose[at] {
			continue
		}
		fate := 0
		if len(fates) > 0 {
			fate = int(fates[j%len(fates)])
		}
		j++
		switch fate % 3 {
		case 0:
			d.is[at] = d.was[at]
		case 2:
			d.is[at] = state{torn: true}
		}
	}
	d.was = d.is
	d.loose = [1024]bool{}
	d.dead, d.fuse = false, 0
}

// same asks that the disk is as it is told.
func (d *told) same(t *testing.T, what string, got *disk.Disk) {
	t.Helper()
	stands(t, what, got, d.dead, d.ops)
	var raw []byte
	for at, s := range d.is {
		raw = append(raw, s.b[:]...)
		b, e := got.Read(at)
		if s.torn && (e != api.ErrTorn || len(b) != 0) || !s.torn && (e != api.OK || !bytes.Equal(b, s.b[:])) {
			t.Fatalf("%s: Read(%d): %x, %d, want %v", what, at, b, e, s)
		}
	}
	if !bytes.Equal(got.Raw(), raw) {
		t.Fatalf("%s: Raw has other bytes", what)
	}
}

// drawn answers so many bytes, or fewer.
func drawn(r *rand.Rand, most int) []byte {
	b := make([]byte, r.Intn(most+1))
	r.Read(b)
	return b
}

// place answers a place that was often written to, any, or none.
func place(r *rand.Rand) int {
	switch r.Intn(20) {
	case 0:
		return r.Intn(1024)
	case 1:
		return []int{0, 1023, 1024, -1, math.MinInt, math.MaxInt}[r.Intn(6)]
	}
	return r.Intn(12)
}

// move does a move of the disk and of what is told, and asks that both answer the same.
func move(t *testing.T, r *rand.Rand, d *disk.Disk, m *told) {
	t.Helper()
	switch k := r.Intn(40); {
	case k < 28:
		at, b := place(r), drawn(r, 130)
		answers(t, "Write", d.Write(at, b), m.write(at, b))
	case k < 32:
		answers(t, "Sync", d.Sync(), m.sync())
	case k < 36:
		n := r.Intn(12) - 2
		answers(t, "Fuse", d.Fuse(n), m.setFuse(n))
	default:
		fates := drawn(r, 9)
		d.Boot(fates)
		m.boot(fates)
	}
}

// Moves by chance, of a disk and of copies of it, against what the chapter tells.
func TestScripts(t *testing.T) {
	for seed := range 60 {
		r := rand.New(rand.NewSource(int64(seed)))
		d, m := disk.New(), &told{}
		var elder *disk.Disk
		var elderTold told
		for k := range 400 {
			move(t, r, d, m)
			if k%10 == 0 {
				m.same(t, "by chance", d)
			}
			if k%50 == 25 {
				if elder != nil {
					elderTold.same(t, "a copy", elder)
				}
				elder, elderTold = d, *m
				d = d.Copy()
			}
		}
		for range 50 {
			move(t, r, elder, &elderTold)
		}
		elderTold.same(t, "the copied one", elder)
		m.same(t, "the last copy", d)
	}
}

// The same moves, the same disks, whatever the order in which a map is gone through: all sectors, all fates.
func TestSameMovesSameDisks(t *testing.T) {
	run := func() []byte {
		r := rand.New(rand.NewSource(1))
		d := disk.New()
		var all []byte
		for range 4 {
			for _, at := range r.Perm(1024) {
				write(t, d, at, drawn(r, 128)...)
			}
			d.Boot(drawn(r, 700))
			all = append(all, d.Raw()...)
		}
		return all
	}
	want := run()
	for range 5 {
		if !bytes.Equal(run(), want) {
			t.Fatal("the same moves make other disks")
		}
	}
}
