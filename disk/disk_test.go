package disk_test

import (
	"bytes"
	"math"
	"math/rand"
	"slices"
	"testing"

	"quaestor/api"
	"quaestor/disk"
)

// full answers the bytes of a sector to which b was written.
func full(b ...byte) []byte {
	return append(slices.Clone(b), make([]byte, api.Sector-len(b))...)
}

// filled answers so many bytes x.
func filled(x byte, n int) []byte { return bytes.Repeat([]byte{x}, n) }

// write writes to a sector without an error.
func write(t *testing.T, d *disk.Disk, at int, b ...byte) {
	t.Helper()
	if e := d.Write(at, b); e != api.OK {
		t.Fatalf("Write(%d) answers the error %d", at, e)
	}
}

// sync syncs without an error.
func sync(t *testing.T, d *disk.Disk) {
	t.Helper()
	if e := d.Sync(); e != api.OK {
		t.Fatalf("Sync answers the error %d", e)
	}
}

// fuse sets the fuse without an error.
func fuse(t *testing.T, d *disk.Disk, n int) {
	t.Helper()
	if e := d.Fuse(n); e != api.OK {
		t.Fatalf("Fuse(%d) answers the error %d", n, e)
	}
}

// answers asks that a call answered this error.
func answers(t *testing.T, what string, e, want api.Errno) {
	t.Helper()
	if e != want {
		t.Errorf("%s answers %d, want %d", what, e, want)
	}
}

// has asks that a sector has the bytes b, and 00 behind.
func has(t *testing.T, what string, d *disk.Disk, at int, b ...byte) {
	t.Helper()
	got, e := d.Read(at)
	if e != api.OK || !bytes.Equal(got, full(b...)) {
		t.Errorf("%s: Read(%d): %x, %d, want %x", what, at, got, e, full(b...))
	}
	if raw := d.Raw(); !bytes.Equal(raw[at*api.Sector:(at+1)*api.Sector], full(b...)) {
		t.Errorf("%s: Raw has other bytes of the sector %d than %x", what, at, b)
	}
}

// isTorn asks that a sector can't be read.
func isTorn(t *testing.T, what string, d *disk.Disk, at int) {
	t.Helper()
	if got, e := d.Read(at); e != api.ErrTorn || len(got) != 0 {
		t.Errorf("%s: Read(%d): %x, %d, want ErrTorn", what, at, got, e)
	}
	if raw := d.Raw(); !bytes.Equal(raw[at*api.Sector:(at+1)*api.Sector], full()) {
		t.Errorf("%s: Raw tells bytes of the torn sector %d", what, at)
	}
}

// stands asks what Dead and Ops answer.
func stands(t *testing.T, what string, d *disk.Disk, dead bool, ops int) {
	t.Helper()
	if d.Dead() != dead || d.Ops() != ops {
		t.Errorf("%s: Dead %t, Ops %d, want %t, %d", what, d.Dead(), d.Ops(), dead, ops)
	}
}

// torn answers a disk of which the sector at is torn, and safe; 3 changes were done.
func torn(t *testing.T, at int) *disk.Disk {
	t.Helper()
	d := disk.New()
	write(t, d, at, 1, 1)
	sync(t, d)
	write(t, d, at, 2)
	d.Boot([]byte{2})
	return d
}

func TestExample(t *testing.T) {
	d := disk.New()
	write(t, d, 3, 1)
	sync(t, d)
	write(t, d, 3, 2)
	d.Boot([]byte{2})
	isTorn(t, "the example", d, 3)
}

func TestNew(t *testing.T) {
	d := disk.New()
	stands(t, "a new disk", d, false, 0)
	if raw := d.Raw(); !bytes.Equal(raw, make([]byte, 1024*128)) {
		t.Errorf("a new disk has %d bytes, or others than 00", len(raw))
	}
	for at := range 1024 {
		if b, e := d.Read(at); e != api.OK || !bytes.Equal(b, make([]byte, 128)) {
			t.Fatalf("Read(%d) of a new disk: %x, %d", at, b, e)
		}
	}
	d.Boot([]byte{2}) // all sectors are safe at first
	if !bytes.Equal(d.Raw(), make([]byte, 1024*128)) {
		t.Error("Boot changes a new disk")
	}
	has(t, "a new disk that was booted", d, 0)
	write(t, d, 5, 9)
	has(t, "another disk", disk.New(), 5)
}

// Of each length: the bytes, and 00 behind them, whatever was there ahead.
func TestWriteLengths(t *testing.T) {
	d := disk.New()
	for n := range api.Sector + 1 {
		write(t, d, 7, filled(255, api.Sector)...)
		b := make([]byte, n)
		rand.New(rand.NewSource(int64(n))).Read(b)
		write(t, d, 7, b...)
		has(t, "written over", d, 7, b...)
		has(t, "the one ahead", d, 6)
		has(t, "the one behind", d, 8)
	}
	if e := d.Write(7, nil); e != api.OK {
		t.Errorf("Write of nil answers %d", e)
	}
	has(t, "written nothing", d, 7)
}

func TestAllSectors(t *testing.T) {
	d := disk.New()
	var want []byte
	for at := range api.Sectors {
		b := []byte{byte(at), byte(at >> 8), 77}
		write(t, d, at, b...)
		want = append(want, full(b...)...)
	}
	if !bytes.Equal(d.Raw(), want) {
		t.Error("Raw has other bytes than were written")
	}
	sync(t, d)
	d.Boot([]byte{2, 0, 1})
	if !bytes.Equal(d.Raw(), want) {
		t.Error("Raw has other bytes than were safe")
	}
	for at := range api.Sectors {
		if b, e := d.Read(at); e != api.OK || !bytes.Equal(b, want[at*api.Sector:(at+1)*api.Sector]) {
			t.Fatalf("Read(%d): %x, %d", at, b, e)
		}
	}
}

// What is refused changes nothing, is no change, and burns no fuse; a place is looked at ahead of a length.
func TestRefused(t *testing.T) {
	d := disk.New()
	write(t, d, 0, 1)
	write(t, d, 1023, 2)
	fuse(t, d, 1)
	as := d.Raw()
	for _, at := range []int{-1, -2, -1023, -1024, 1024, 1025, 1 << 32, 1<<32 + 1, 1 << 62, math.MinInt, math.MaxInt} {
		for _, n := range []int{0, 1, 128, 129, 4096} {
			answers(t, "Write to no sector", d.Write(at, filled(3, n)), api.ErrArg)
		}
		if b, e := d.Read(at); e != api.ErrArg || len(b) != 0 {
			t.Errorf("Read(%d): %x, %d, want ErrArg", at, b, e)
		}
	}
	for _, at := range []int{0, 1, 500, 1023} {
		for _, n := range []int{129, 130, 255, 256, 257, 1 << 16, 1 << 20} {
			answers(t, "Write of too many bytes", d.Write(at, filled(3, n)), api.ErrLong)
		}
	}
	stands(t, "refused", d, false, 2)
	if !bytes.Equal(d.Raw(), as) {
		t.Error("a Write that is refused changes the disk")
	}
	answers(t, "the change that burns the fuse", d.Write(1, nil), api.ErrCrash)
	d.Boot([]byte{1, 2}) // 0, 1 and 1023 aren't safe, and none that was refused
	has(t, "the first", d, 0, 1)
	isTorn(t, "the second", d, 1)
	has(t, "the last", d, 1023, 2)
}

// Each fate, of a sector that was new, safe, or torn.
func TestEachFate(t *testing.T) {
	for fate := range 256 {
		d := torn(t, 30)
		write(t, d, 20, 5, 5)
		sync(t, d)
		write(t, d, 10, 6)
		write(t, d, 20, 7)
		write(t, d, 30, 8)
		d.Boot([]byte{byte(fate)})
		for range 2 { // then they are safe
			switch fate % 3 {
			case 0:
				has(t, "a new one, lost", d, 10)
				has(t, "a safe one, lost", d, 20, 5, 5)
				isTorn(t, "a torn one, lost", d, 30)
			case 1:
				has(t, "a new one, kept", d, 10, 6)
				has(t, "a safe one, kept", d, 20, 7)
				has(t, "a torn one, kept", d, 30, 8)
			case 2:
				isTorn(t, "a new one, torn", d, 10)
				isTorn(t, "a safe one, torn", d, 20)
				isTorn(t, "a torn one, torn", d, 30)
			}
			d.Boot([]byte{byte(fate + 1), byte(fate + 2)})
		}
	}
}

// Fates go by rising places, whatever the order of the writes, and begin anew where they end.
func TestFatesByPlaces(t *testing.T) {
	places := []int{0, 1, 2, 63, 64, 100, 511, 512, 777, 1022, 1023}
	for seed := range 200 {
		r := rand.New(rand.NewSource(int64(seed)))
		d := disk.New()
		for _, at := range places {
			write(t, d, at, 1)
		}
		write(t, d, 300, 1)
		sync(t, d)
		for _, k := range r.Perm(len(places)) {
			write(t, d, places[k], 9)
			write(t, d, places[k], 2) // twice: it has one fate
		}
		fates := make([]byte, seed%(len(places)+5))
		r.Read(fates)
		d.Boot(fates)
		has(t, "one that was safe", d, 300, 1)
		for j, at := range places {
			fate := byte(0)
			if len(fates) > 0 {
				fate = fates[j%len(fates)] % 3
			}
			switch fate {
			case 0:
				has(t, "lost", d, at, 1)
			case 1:
				has(t, "kept", d, at, 2)
			case 2:
				isTorn(t, "torn", d, at)
			}
		}
	}
}

// Without fates all that isn't safe is lost.
func TestNoFates(t *testing.T) {
	for _, fates := range [][]byte{nil, {}, []byte{1}[:0]} {
		d := torn(t, 4)
		write(t, d, 5, 1)
		sync(t, d)
		for at := range 8 {
			write(t, d, at, 9)
		}
		d.Boot(fates)
		has(t, "new", d, 0)
		isTorn(t, "torn", d, 4)
		has(t, "safe", d, 5, 1)
	}
}

// What is synced has no fate; what is written again has one, if it be the same bytes.
func TestSync(t *testing.T) {
	d := torn(t, 3)
	write(t, d, 1, 1)
	write(t, d, 2, 2)
	write(t, d, 3, 3)
	sync(t, d)
	d.Boot([]byte{2})
	has(t, "synced", d, 1, 1)
	has(t, "synced", d, 2, 2)
	has(t, "torn, written and synced", d, 3, 3)
	write(t, d, 3, 4)
	d.Boot([]byte{0})
	has(t, "lost", d, 3, 3)
	write(t, d, 1, 1)
	write(t, d, 2, 2)
	d.Boot([]byte{2, 0})
	isTorn(t, "the same bytes", d, 1)
	has(t, "the same bytes", d, 2, 2)
	sync(t, d) // a torn one stays so, though it is safe
	isTorn(t, "synced", d, 1)
	d.Boot([]byte{1})
	isTorn(t, "booted", d, 1)
}

// A torn sector that is written, lost, written and lost is torn still; written it can be read.
func TestTornAgain(t *testing.T) {
	d := torn(t, 9)
	for range 3 {
		isTorn(t, "lost", d, 9)
		write(t, d, 9)
		has(t, "written", d, 9)
		write(t, d, 9, 1, 2)
		has(t, "written again", d, 9, 1, 2)
		d.Boot(nil)
	}
	isTorn(t, "lost", d, 9)
	write(t, d, 9, 3)
	sync(t, d)
	write(t, d, 9, 4)
	d.Boot(nil)
	has(t, "safe", d, 9, 3)
}

// The fuse n is burnt by the n-th change, be it a Write or a Sync, and by no other call.
func TestFuse(t *testing.T) {
	for n := 1; n <= 12; n++ {
		for _, last := range []string{"Write", "Sync"} {
			d := disk.New()
			write(t, d, 50, 1)
			sync(t, d)
			fuse(t, d, n)
			for k := range n - 1 {
				if k%3 == 1 {
					sync(t, d)
				} else {
					write(t, d, 50, byte(k))
				}
				_, _ = d.Read(1)
				_, _ = d.Raw(), d.Copy()
			}
			stands(t, "ahead of the last", d, false, n+1)
			if last == "Write" {
				answers(t, "the Write that burns", d.Write(40, []byte{8}), api.ErrCrash)
				has(t, "the Write that burnt", d, 40, 8)
			} else {
				answers(t, "the Sync that burns", d.Sync(), api.ErrCrash)
			}
			stands(t, last, d, true, n+2)
		}
	}
}

// The Write that burns the fuse is written, but not safe: it has any fate.
func TestBurntWrite(t *testing.T) {
	for fate := range 3 {
		for _, was := range []string{"new", "safe", "torn"} {
			d := torn(t, 2)
			if was == "new" {
				d = disk.New()
			} else if was == "safe" {
				write(t, d, 2, 5)
			}
			write(t, d, 1, 1)
			sync(t, d)
			write(t, d, 4, 4)
			fuse(t, d, 2)
			write(t, d, 1, 2)
			answers(t, "Write", d.Write(2, []byte{3}), api.ErrCrash)
			has(t, "burnt", d, 2, 3)
			d.Boot([]byte{1, byte(fate), 2})
			has(t, "ahead of it", d, 1, 2)
			isTorn(t, "behind it", d, 4)
			switch {
			case fate == 1:
				has(t, "burnt, kept", d, 2, 3)
			case fate == 2 || was == "torn":
				isTorn(t, "burnt, torn", d, 2)
			case was == "safe":
				has(t, "burnt, lost", d, 2, 5)
			default:
				has(t, "burnt, lost", d, 2)
			}
		}
	}
}

// The Sync that burns the fuse makes nothing safe.
func TestBurntSync(t *testing.T) {
	d := disk.New()
	write(t, d, 1, 1)
	sync(t, d)
	for at := range 3 {
		write(t, d, at, 7)
	}
	fuse(t, d, 1)
	answers(t, "Sync", d.Sync(), api.ErrCrash)
	has(t, "burnt", d, 1, 7)
	d.Boot([]byte{2, 0, 1})
	isTorn(t, "the first", d, 0)
	has(t, "the second", d, 1, 1)
	has(t, "the third", d, 2, 7)
	stands(t, "booted", d, false, 6)
}

// A fuse takes the place of the one ahead; none is there below 1, nor behind a Boot.
func TestFuseAgain(t *testing.T) {
	for _, n := range []int{0, -1, -5, math.MinInt} {
		d := disk.New()
		fuse(t, d, 2)
		write(t, d, 1, 1)
		fuse(t, d, n)
		for range 50 {
			write(t, d, 1, 1)
			sync(t, d)
		}
		stands(t, "no fuse", d, false, 101)
	}
	d := disk.New()
	fuse(t, d, 1)
	fuse(t, d, 3)
	write(t, d, 1, 1)
	write(t, d, 1, 2)
	fuse(t, d, 2) // from then on
	write(t, d, 1, 3)
	answers(t, "the second", d.Write(1, nil), api.ErrCrash)
	d.Boot(nil)
	fuse(t, d, 2)
	write(t, d, 1, 3)
	d.Boot(nil)
	for range 5 {
		write(t, d, 1, 1)
	}
	stands(t, "booted", d, false, 10)
	fuse(t, d, math.MaxInt)
	for range 5 {
		write(t, d, 1, 1)
	}
	fuse(t, d, 1)
	answers(t, "the first", d.Sync(), api.ErrCrash)
	stands(t, "burnt", d, true, 16)
}

// Without power nothing is done, whatever is asked for; what tells of the disk tells it.
func TestDead(t *testing.T) {
	d := torn(t, 8)
	write(t, d, 1, 1)
	sync(t, d)
	write(t, d, 1, 2)
	fuse(t, d, 1)
	answers(t, "Write", d.Write(2, []byte{3}), api.ErrCrash)
	as := d.Raw()
	for range 3 {
		for _, at := range []int{-1, 0, 1, 2, 8, 1023, 1024, math.MaxInt} {
			for _, n := range []int{0, 1, 128, 129} {
				answers(t, "Write without power", d.Write(at, filled(9, n)), api.ErrCrash)
			}
		}
		answers(t, "Sync without power", d.Sync(), api.ErrCrash)
		for _, n := range []int{-1, 0, 1, 2, math.MaxInt} {
			answers(t, "Fuse without power", d.Fuse(n), api.ErrCrash)
		}
		stands(t, "without power", d, true, 7)
		if !bytes.Equal(d.Raw(), as) {
			t.Fatal("without power the disk changes")
		}
		has(t, "without power", d, 0)
		has(t, "without power", d, 1, 2)
		has(t, "without power", d, 2, 3)
		isTorn(t, "without power", d, 8)
		for _, at := range []int{-1, 1024} {
			if b, e := d.Read(at); e != api.ErrArg || len(b) != 0 {
				t.Errorf("Read(%d) without power: %x, %d, want ErrArg", at, b, e)
			}
		}
	}
	d.Boot([]byte{0, 1})
	has(t, "booted", d, 1, 1)
	has(t, "booted", d, 2, 3)
	isTorn(t, "booted", d, 8)
	write(t, d, 3, 3) // no fuse
	sync(t, d)
	stands(t, "booted", d, false, 9)
}

// A Boot where the power is there: it goes off ahead.
func TestBootWithPower(t *testing.T) {
	d := disk.New()
	fuse(t, d, 5)
	write(t, d, 1, 1)
	write(t, d, 2, 1)
	write(t, d, 3, 1)
	d.Boot([]byte{4, 3, 5}) // modulo 3: 1, 0, 2
	stands(t, "booted", d, false, 3)
	has(t, "kept", d, 1, 1)
	has(t, "lost", d, 2)
	isTorn(t, "torn", d, 3)
	for range 20 {
		write(t, d, 4, 4)
	}
	stands(t, "no fuse", d, false, 23)
}

// A copy has the bytes, what is safe, what is torn, the fuse, the power and the count; then each goes on alone.
func TestCopy(t *testing.T) {
	made := func() *disk.Disk {
		d := torn(t, 8)
		write(t, d, 1, 1)
		write(t, d, 2, 2)
		sync(t, d)
		write(t, d, 1, 9)
		write(t, d, 2, 9)
		write(t, d, 8, 9)
		fuse(t, d, 2)
		return d
	}
	goesOn := func(what string, d *disk.Disk) {
		t.Helper()
		stands(t, what, d, false, 9)
		write(t, d, 3, 3)
		answers(t, what, d.Write(4, []byte{4}), api.ErrCrash)
		stands(t, what, d.Copy(), true, 11)
		d = d.Copy()
		answers(t, what, d.Sync(), api.ErrCrash)
		d.Boot([]byte{0, 1, 0, 1, 0})
		stands(t, what, d, false, 11)
		has(t, what, d, 1, 1)
		has(t, what, d, 2, 9)
		has(t, what, d, 3)
		has(t, what, d, 4, 4)
		isTorn(t, what, d, 8)
	}
	d := made()
	c := d.Copy()
	if c == d {
		t.Fatal("a copy is the disk")
	}
	goesOn("the disk", d)
	goesOn("the copy", c)
	d = made()
	c = d.Copy()
	goesOn("the copy", c)
	goesOn("the disk", d)
	d = made()
	c = d.Copy()
	d.Boot([]byte{2})
	goesOn("the copy of one that was booted", c)
	d = made()
	c = d.Copy()
	fuse(t, c, 0)
	sync(t, c)
	c.Boot(nil)
	goesOn("the disk of which a copy was booted", d)
	has(t, "the copy", c, 8, 9)
	d = disk.New()
	c = d.Copy() // of a new one
	write(t, c, 1, 1)
	sync(t, c)
	has(t, "the disk", d, 1)
	stands(t, "the disk", d, false, 0)
}

func TestNil(t *testing.T) {
	var d *disk.Disk
	for _, at := range []int{-1, 0, 5, 1023, 1024, math.MinInt, math.MaxInt} {
		answers(t, "Write of none", d.Write(at, []byte{1}), api.ErrCrash)
		answers(t, "Write of none", d.Write(at, filled(1, 129)), api.ErrCrash)
		if b, e := d.Read(at); e != api.ErrArg || len(b) != 0 {
			t.Errorf("Read(%d) of none: %x, %d, want ErrArg", at, b, e)
		}
		answers(t, "Fuse of none", d.Fuse(at), api.ErrCrash)
	}
	answers(t, "Sync of none", d.Sync(), api.ErrCrash)
	d.Boot(nil)
	d.Boot([]byte{1, 2})
	if d.Dead() || d.Ops() != 0 || len(d.Raw()) != 0 || d.Copy() != nil {
		t.Error("none has power, changes, bytes, or a copy")
	}
}

// A disk that New did not make is like one that it made.
func TestZero(t *testing.T) {
	var d disk.Disk
	d.Boot([]byte{2})
	sync(t, &d)
	if !bytes.Equal(d.Raw(), make([]byte, 1024*128)) {
		t.Error("the zero value has bytes")
	}
	c := d.Copy()
	write(t, c, 1, 1)
	has(t, "the copy", c, 1, 1)
	has(t, "the zero value", &d, 1)
	write(t, &d, 2, 1)
	d.Boot([]byte{2})
	isTorn(t, "the zero value", &d, 2)
	stands(t, "the zero value", &d, false, 2)
}

// What is handed in is neither changed nor kept, nor read behind its length.
func TestMemory(t *testing.T) {
	d := disk.New()
	memory := []byte{1, 2, 3, 4, 5, 6}
	write(t, d, 1, memory[1:3]...)
	has(t, "a part of memory", d, 1, 2, 3)
	if !bytes.Equal(memory, []byte{1, 2, 3, 4, 5, 6}) {
		t.Error("Write changes what is handed in")
	}
	clear(memory)
	has(t, "memory that was cleared", d, 1, 2, 3)
	sync(t, d)
	for at := range 4 {
		write(t, d, at, 9)
	}
	fates := []byte{1, 0, 2, 2, 2, 2}
	d.Boot(fates[:3]) // the fourth has the first's
	if !bytes.Equal(fates, []byte{1, 0, 2, 2, 2, 2}) {
		t.Error("Boot changes its fates")
	}
	has(t, "the first", d, 0, 9)
	has(t, "the second", d, 1, 2, 3)
	isTorn(t, "the third", d, 2)
	has(t, "the fourth", d, 3, 9)
}

// What is answered may be written over, and nothing else changes by it.
func TestAnswersAreApart(t *testing.T) {
	d := disk.New()
	write(t, d, 1, 1)
	sync(t, d)
	write(t, d, 2, 2)
	want := d.Raw()
	for at := range 4 {
		b, _ := d.Read(at)
		other, _ := d.Read(at)
		copy(b, filled(7, api.Sector))
		_ = append(b[:0], filled(8, 64)...)
		if bytes.Contains(other, []byte{8}) || bytes.Contains(other, []byte{7}) {
			t.Error("two answers of Read share memory")
		}
	}
	raw := d.Raw()
	clear(raw)
	_ = append(raw, 1)
	if !bytes.Equal(d.Raw(), want) {
		t.Error("what was answered changes the disk")
	}
	d.Boot([]byte{1})
	if !bytes.Equal(d.Raw(), want) {
		t.Error("what was answered changes what is safe")
	}
}
