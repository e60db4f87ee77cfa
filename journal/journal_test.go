package journal_test

import (
	"bytes"
	"encoding/binary"
	"math"
	"math/rand"
	"slices"
	"testing"

	"quaestor/api"
	"quaestor/disk"
	"quaestor/journal"
	"quaestor/slot"
)

// opened opens a store without an error.
func opened(t *testing.T, d *disk.Disk) *journal.Store {
	t.Helper()
	s, e := journal.Open(d)
	if s == nil || e != api.OK {
		t.Fatalf("Open answers the error %d", e)
	}
	return s
}

// made answers a disk, and a store on it whose image is "image", with these records.
func made(t *testing.T, records ...[]byte) (*disk.Disk, *journal.Store) {
	t.Helper()
	d := disk.New()
	s := opened(t, d)
	does(t, "Save", s.Save([]byte("image")))
	for _, b := range records {
		does(t, "Append", s.Append(b))
	}
	return d, s
}

// does asks that a call answered no error.
func does(t *testing.T, what string, e api.Errno) {
	t.Helper()
	if e != api.OK {
		t.Fatalf("%s answers the error %d", what, e)
	}
}

// refuses asks that a call answered this error.
func refuses(t *testing.T, what string, e, want api.Errno) {
	t.Helper()
	if e != want {
		t.Fatalf("%s answers %d, want the error %d", what, e, want)
	}
}

// has asks that a store recovers this image and these records.
func has(t *testing.T, what string, s *journal.Store, image []byte, records ...[]byte) {
	t.Helper()
	b, l, e := s.Recover()
	if e != api.OK || !bytes.Equal(b, image) || !slices.EqualFunc(l, records, bytes.Equal) {
		t.Fatalf("%s: Recover: %x, %x, %d, want %x, %x", what, b, l, e, image, records)
	}
}

// hasNone asks that a store has no image.
func hasNone(t *testing.T, what string, s *journal.Store) {
	t.Helper()
	if b, l, e := s.Recover(); e != api.ErrNone || len(b) != 0 || len(l) != 0 {
		t.Fatalf("%s: Recover: %x, %x, %d, want ErrNone", what, b, l, e)
	}
}

// isStale asks that a store isn't fresh, and that a refused record changes nothing.
func isStale(t *testing.T, what string, s *journal.Store, d *disk.Disk) {
	t.Helper()
	as, ops := d.Raw(), d.Ops()
	for _, b := range [][]byte{nil, {1}, make([]byte, 4096), make([]byte, 4097), make([]byte, 60000)} {
		refuses(t, what+": Append", s.Append(b), api.ErrStale)
	}
	if s.Room() != 0 {
		t.Fatalf("%s: Room of a store that isn't fresh is %d", what, s.Room())
	}
	if d.Ops() != ops || !bytes.Equal(d.Raw(), as) {
		t.Fatalf("%s: what is refused changes the disk", what)
	}
}

// isFresh asks that a store is fresh: a record is taken, behind those.
func isFresh(t *testing.T, what string, s *journal.Store, image []byte, records ...[]byte) {
	t.Helper()
	if s.Room() == 0 {
		t.Fatalf("%s: the store isn't fresh", what)
	}
	does(t, what+": Append", s.Append([]byte("one more")))
	has(t, what, s, image, append(slices.Clone(records), []byte("one more"))...)
}

// put writes sectors from a place on, and syncs.
func put(t *testing.T, d *disk.Disk, from int, l ...[]byte) {
	t.Helper()
	for i, b := range l {
		does(t, "Write", d.Write(from+i, b))
	}
	does(t, "Sync", d.Sync())
}

// tear makes a sector one that can't be read.
func tear(t *testing.T, d *disk.Disk, at int) {
	t.Helper()
	d.Sync()
	d.Write(at, nil)
	d.Boot([]byte{2})
	if _, e := d.Read(at); e != api.ErrTorn {
		t.Fatalf("the sector %d isn't torn", at)
	}
}

// stands asks that a disk's bytes from the sector 512 on are these sectors, and bytes 00 behind.
func stands(t *testing.T, what string, d *disk.Disk, l ...[]byte) {
	t.Helper()
	want := make([]byte, 512*128)
	copy(want, slices.Concat(l...))
	if got := d.Raw()[512*128:]; !bytes.Equal(got, want) {
		for at := range 512 {
			if x, y := got[at*128:at*128+128], want[at*128:at*128+128]; !bytes.Equal(x, y) {
				t.Fatalf("%s: the sector %d: %x, want %x", what, 512+at, x, y)
			}
		}
	}
}

// some answers so many bytes, by chance.
func some(seed int64, n int) []byte {
	b := make([]byte, n)
	rand.New(rand.NewSource(seed)).Read(b)
	return b
}

func TestExample(t *testing.T) {
	d := disk.New()
	s := opened(t, d)
	does(t, "Save", s.Save([]byte("i")))
	does(t, "Append", s.Append([]byte("a")))
	does(t, "Append", s.Append([]byte("b")))
	for _, fates := range [][]byte{nil, {0}, {1}, {2}} {
		c := d.Copy()
		c.Boot(fates)
		has(t, "the power goes off", opened(t, c), []byte("i"), []byte("a"), []byte("b"))
	}
	if journal.Part != 108 {
		t.Errorf("Part is %d", journal.Part)
	}
}

func TestOpen(t *testing.T) {
	if s, e := journal.Open(nil); s != nil || e != api.ErrArg {
		t.Errorf("Open of no disk answers %v, %d, want ErrArg", s, e)
	}
	d := disk.New()
	s := opened(t, d)
	hasNone(t, "new", s)
	isStale(t, "new", s, d)
	if d.Ops() != 0 {
		t.Error("Open, or Recover, changes the disk")
	}
	put(t, d, 512, laid(0, []byte("a"))...)
	hasNone(t, "records alone", s)
	put(t, d, 0, binary.LittleEndian.AppendUint64(nil, 1))
	hasNone(t, "no whole slot", s)
}

func TestNil(t *testing.T) {
	var zero journal.Store
	for _, s := range []*journal.Store{nil, &zero} {
		hasNone(t, "none", s)
		for _, b := range [][]byte{nil, {}, {1}, make([]byte, 4097), make([]byte, 1<<17)} {
			refuses(t, "Save of none", s.Save(b), api.ErrArg)
			refuses(t, "Scrub of none", s.Scrub(b), api.ErrArg)
			refuses(t, "Append of none", s.Append(b), api.ErrStale)
		}
		if s.Room() != 0 {
			t.Errorf("Room of none is %d", s.Room())
		}
	}
}

// Sectors as they stand on the disk.
func TestSectors(t *testing.T) {
	d, _ := made(t, []byte("abc"), nil, append(make([]byte, 108), "de"...))
	one := append([]byte{
		1, 0, 0, 0, 0, 0, 0, 0, // the epoch
		0, 0, 0, 0, // the number
		0, 0, // the place
		1, 0, // parts
		3, 0, 0, 0, // bytes
	}, append([]byte("abc"), make([]byte, 105)...)...)
	two := append([]byte{1, 0, 0, 0, 0, 0, 0, 0, 1, 0, 0, 0, 0, 0, 1, 0, 0, 0, 0, 0}, make([]byte, 108)...)
	three := append([]byte{1, 0, 0, 0, 0, 0, 0, 0, 2, 0, 0, 0, 0, 0, 2, 0, 110, 0, 0, 0}, make([]byte, 108)...)
	four := append([]byte{1, 0, 0, 0, 0, 0, 0, 0, 2, 0, 0, 0, 1, 0, 2, 0, 110, 0, 0, 0}, append([]byte("de"), make([]byte, 106)...)...)
	stands(t, "three records", d, one, two, three, four)
	d = disk.New()
	p, _ := slot.Open(d, 0, 256)
	put(t, d, 0, binary.LittleEndian.AppendUint64(nil, 0x123456789abcde)) // the next epoch is one above
	s := opened(t, d)
	does(t, "Save", s.Save([]byte("image")))
	if b, n, e := p.Load(); string(b) != "image" || n != 0x123456789abcdf || e != api.OK {
		t.Fatalf("the image: %q, %x, %d", b, n, e)
	}
	for range 258 {
		does(t, "Append", s.Append(nil))
	}
	want := append([]byte{0xdf, 0xbc, 0x9a, 0x78, 0x56, 0x34, 0x12, 0, 1, 1, 0, 0, 0, 0, 1, 0, 0, 0, 0, 0}, make([]byte, 108)...)
	if b, e := d.Read(512 + 257); e != api.OK || !bytes.Equal(b, want) {
		t.Fatalf("the record 257: %x, %d, want %x", b, e, want)
	}
}

// Of each length: the sectors, to the last byte, nothing beside, and as many changes.
func TestEachLength(t *testing.T) {
	lengths := []int{539, 540, 541, 1079, 1080, 1081, 2048, 3996, 3997, 4000, 4095, 4096}
	for n := range 440 {
		lengths = append(lengths, n)
	}
	d := disk.New()
	s := opened(t, d)
	var records, l [][]byte
	epoch := uint64(0)
	for i, n := range lengths {
		b := some(int64(i), n)
		if i%80 == 0 {
			does(t, "Save", s.Save(b))
			put(t, d, 512, make([][]byte, 512)...)
			epoch++
			records, l = nil, nil
		}
		image := d.Raw()[:512*128]
		ops := d.Ops()
		does(t, "Append", s.Append(b))
		next := sectorsOf(epoch, len(records), b)
		records, l = append(records, b), append(l, next...)
		stands(t, "laid", d, l...)
		if !bytes.Equal(d.Raw()[:512*128], image) {
			t.Fatalf("%d bytes: Append changes the image", n)
		}
		if d.Ops() != ops+len(next)+1 {
			t.Fatalf("%d bytes: %d changes", n, d.Ops()-ops)
		}
		has(t, "laid", s, some(int64(i-i%80), lengths[i-i%80]), records...)
	}
}

// Room is what the sectors that are left have, at most 4096; what has more bytes isn't laid.
func TestRoom(t *testing.T) {
	d, s := made(t)
	left, number := 512, 0
	for _, n := range []int{0, 1, 108, 109, 4096, 4095, 4096, 4096, 4000, 4096, 4096, 4096, 4096, 4096, 4096, 3000, 500} {
		does(t, "Append", s.Append(make([]byte, n)))
		left -= len(sectorsOf(1, 0, make([]byte, n)))
		number++
		if want := min(4096, 108*left); s.Room() != want {
			t.Fatalf("Room is %d, want %d", s.Room(), want)
		}
	}
	for left > 0 {
		as, ops := d.Raw(), d.Ops()
		for n := 108*left + 1; n <= 4096; n += 150 {
			refuses(t, "Append without room", s.Append(make([]byte, n)), api.ErrFull)
		}
		refuses(t, "Append of too many bytes", s.Append(make([]byte, 4097)), api.ErrLong)
		if d.Ops() != ops || !bytes.Equal(d.Raw(), as) {
			t.Fatal("what is refused changes the disk")
		}
		c := d.Copy()
		for i, b := range sectorsOf(1, number, some(1, s.Room())) {
			c.Write(1024-left+i, b)
		}
		if left < 38 { // the record that has just room
			_, l, _ := opened(t, c).Recover()
			if len(l) != number+1 || !bytes.Equal(l[number], some(1, 108*left)) {
				t.Fatalf("a record of %d bytes isn't recovered", 108*left)
			}
		}
		does(t, "Append", s.Append(make([]byte, min(s.Room(), 100))))
		left--
		number++
		if want := min(4096, 108*left); s.Room() != want {
			t.Fatalf("Room is %d, want %d", s.Room(), want)
		}
	}
	refuses(t, "Append without a sector", s.Append(nil), api.ErrFull)
	if _, l, _ := s.Recover(); len(l) != number {
		t.Fatalf("%d records, want %d", len(l), number)
	}
	does(t, "Save", s.Save([]byte("next")))
	if s.Room() != 4096 {
		t.Fatalf("Room of no records is %d", s.Room())
	}
	isFresh(t, "saved anew", s, []byte("next"))
}

// A record may have just as many bytes as there is room for, of each number of sectors that are left.
func TestRoomIsTaken(t *testing.T) {
	for left := 1; left <= 40; left++ {
		_, s := made(t)
		records := make([][]byte, 512-left)
		for range records {
			does(t, "Append", s.Append(nil))
		}
		b := some(1, s.Room())
		if len(b) != min(4096, 108*left) {
			t.Fatalf("Room of %d sectors is %d", left, len(b))
		}
		want := api.ErrFull
		if len(b) == 4096 {
			want = api.ErrLong
		}
		refuses(t, "Append of one byte more", s.Append(append(b, 0)), want)
		does(t, "Append", s.Append(b))
		has(t, "all room is taken", s, []byte("image"), append(records, b)...)
	}
}

// 512 records without bytes take all sectors.
func TestMany(t *testing.T) {
	d, s := made(t)
	for i := range 512 {
		if s.Room() != min(4096, (512-i)*108) {
			t.Fatalf("Room is %d", s.Room())
		}
		does(t, "Append", s.Append(nil))
	}
	refuses(t, "Append", s.Append(nil), api.ErrFull)
	has(t, "many", s, []byte("image"), make([][]byte, 512)...)
	has(t, "opened anew", opened(t, d), []byte("image"), make([][]byte, 512)...)
}

// ErrStale, then ErrLong, then ErrFull, then the disk's: behind all but the last one the store is as it was.
func TestOrderOfErrors(t *testing.T) {
	d, s := made(t)
	full, f := made(t, slices.Repeat([][]byte{nil}, 511)...)
	d.Fuse(1)
	full.Fuse(1)
	d.Write(1023, nil)
	full.Write(1023, nil)
	for range 2 {
		refuses(t, "too many bytes, without power", s.Append(make([]byte, 4097)), api.ErrLong)
		refuses(t, "too many bytes, no room, without power", f.Append(make([]byte, 4097)), api.ErrLong)
		refuses(t, "no room, without power", f.Append(make([]byte, 109)), api.ErrFull)
		if s.Room() != 4096 || f.Room() != 108 {
			t.Fatalf("Room without power is %d, %d", s.Room(), f.Room())
		}
	}
	refuses(t, "without power", s.Append(make([]byte, 4096)), api.ErrCrash)
	refuses(t, "without power", f.Append(make([]byte, 108)), api.ErrCrash)
	isStale(t, "behind the disk's error", s, d)
	isStale(t, "behind the disk's error", f, full)
	d.Boot(nil)
	isStale(t, "the power is back", s, d)
	has(t, "the power is back", s, []byte("image"))
	refuses(t, "Save of too many bytes", s.Save(make([]byte, 256*104+1)), api.ErrLong)
	refuses(t, "Scrub of too many bytes", s.Scrub(make([]byte, 256*104+1)), api.ErrLong)
	does(t, "Save", s.Save(make([]byte, 256*104)))
	isFresh(t, "saved anew", s, make([]byte, 256*104))
}

// A store is fresh behind a Save and a Scrub, as long as all that it asks for is done.
func TestFresh(t *testing.T) {
	long := make([]byte, 256*104+1)
	breaks := map[string]struct {
		do   func(s *journal.Store, d *disk.Disk) api.Errno
		want api.Errno
	}{
		"a Save of too many bytes":  {func(s *journal.Store, d *disk.Disk) api.Errno { return s.Save(long) }, api.ErrLong},
		"a Scrub of too many bytes": {func(s *journal.Store, d *disk.Disk) api.Errno { return s.Scrub(long) }, api.ErrLong},
		"a Save that is spent": {func(s *journal.Store, d *disk.Disk) api.Errno {
			d.Write(511, binary.LittleEndian.AppendUint64(nil, api.Ceiling))
			e := s.Save([]byte("next"))
			d.Write(511, nil)
			return e
		}, api.ErrSpent},
		"a Scrub that is spent": {func(s *journal.Store, d *disk.Disk) api.Errno {
			d.Write(511, binary.LittleEndian.AppendUint64(nil, math.MaxUint64))
			e := s.Scrub([]byte("next"))
			d.Write(511, nil)
			return e
		}, api.ErrSpent},
		"the fuse at an Append's Write": {func(s *journal.Store, d *disk.Disk) api.Errno { d.Fuse(1); return s.Append([]byte("b")) }, api.ErrCrash},
		"the fuse at an Append's Sync":  {func(s *journal.Store, d *disk.Disk) api.Errno { d.Fuse(2); return s.Append([]byte("b")) }, api.ErrCrash},
		"the fuse at a Save's Write":    {func(s *journal.Store, d *disk.Disk) api.Errno { d.Fuse(1); return s.Save([]byte("b")) }, api.ErrCrash},
		"the fuse at a Save's Sync":     {func(s *journal.Store, d *disk.Disk) api.Errno { d.Fuse(2); return s.Save([]byte("b")) }, api.ErrCrash},
		"the fuse in a Wipe":            {func(s *journal.Store, d *disk.Disk) api.Errno { d.Fuse(400); return s.Scrub([]byte("b")) }, api.ErrCrash},
		"the fuse behind a Wipe":        {func(s *journal.Store, d *disk.Disk) api.Errno { d.Fuse(515); return s.Scrub([]byte("b")) }, api.ErrCrash},
		"the fuse at a Scrub's Sync":    {func(s *journal.Store, d *disk.Disk) api.Errno { d.Fuse(516); return s.Scrub([]byte("b")) }, api.ErrCrash},
		"an Append without power":       {func(s *journal.Store, d *disk.Disk) api.Errno { d.Fuse(1); d.Sync(); return s.Append(nil) }, api.ErrCrash},
		"a Save without power":          {func(s *journal.Store, d *disk.Disk) api.Errno { d.Fuse(1); d.Sync(); return s.Save(nil) }, api.ErrCrash},
		"a Scrub without power":         {func(s *journal.Store, d *disk.Disk) api.Errno { d.Fuse(1); d.Sync(); return s.Scrub(nil) }, api.ErrCrash},
	}
	for what, x := range breaks {
		d, s := made(t, []byte("a"))
		refuses(t, what, x.do(s, d), x.want)
		isStale(t, what, s, d)
		d.Boot([]byte{1})
		isStale(t, what+", booted", s, d)
		for _, save := range []func([]byte) api.Errno{s.Save, s.Scrub, s.Save} {
			does(t, what+": saved anew", save([]byte("anew")))
			isFresh(t, what, s, []byte("anew"))
		}
		isStale(t, what+", opened", opened(t, d), d)
	}
}

// What others do to the disk, or to its sectors, plays no role for a store that is fresh.
func TestOthersKeepItFresh(t *testing.T) {
	d, s := made(t, []byte("a"))
	other := opened(t, d)
	d.Fuse(1)
	d.Write(600, []byte("burnt"))
	if s.Room() != 4096 {
		t.Fatalf("Room without power is %d", s.Room())
	}
	d.Boot(nil)
	isFresh(t, "the power went off and came back", s, []byte("image"), []byte("a"))
	a, more := []byte("a"), []byte("one more")
	put(t, d, 512, nil)
	has(t, "the first record is written over", s, []byte("image"))
	does(t, "Append", s.Append([]byte("b")))
	stands(t, "laid behind", d, append([][]byte{nil128()}, laid(1, a, more, []byte("b"))[1:]...)...)
	put(t, d, 512, laid(1, a)...)
	isFresh(t, "it is there again", s, []byte("image"), a, more, []byte("b"))

	does(t, "another store's Save", other.Save([]byte("other")))
	does(t, "another store's Append", other.Append([]byte("c")))
	has(t, "another store's image", s, []byte("other"), []byte("c"))
	does(t, "Append behind another's Save", s.Append([]byte("d")))
	has(t, "of the elder epoch", s, []byte("other"), []byte("c"))
	if b, _ := d.Read(516); !bytes.Equal(b, sectorsOf(1, 4, []byte("d"))[0]) {
		t.Fatalf("the record of the elder epoch: %x", b)
	}
	does(t, "Append", other.Append([]byte("e")))
	has(t, "of the epoch", s, []byte("other"), []byte("c"), []byte("e"))
	for at := range api.Sectors {
		d.Write(at, nil)
	}
	does(t, "Append without an image", s.Append([]byte("f")))
	hasNone(t, "without an image", s)
	does(t, "Save", s.Save([]byte("first"))) // its epoch is 1 again: others wiped the disk
	has(t, "saved anew", s, []byte("first"))
}

// nil128 answers a sector of bytes 00.
func nil128() []byte { return make([]byte, 128) }

// Behind a Save there are no records, unless others wrote some of the new epoch; it doesn't look at their sectors.
func TestSave(t *testing.T) {
	records := [][]byte{[]byte("a"), some(1, 300), nil, some(2, 4096)}
	d, s := made(t, records...)
	has(t, "records", s, []byte("image"), records...)
	for n, size := range []int{0, 1, 104, 105, 5000, 26623, 26624} {
		image := some(int64(n), size)
		other := d.Copy()
		p, _ := slot.Open(other, 0, 256)
		number, e := p.Save(image)
		does(t, "the pair's Save", e)
		does(t, "Save", s.Save(image))
		sameDisk(t, "saved", d, other)
		has(t, "saved", s, image)
		has(t, "saved, opened anew", opened(t, d), image)
		if number != uint64(n+2) {
			t.Fatalf("the epoch is %d", number)
		}
	}
	does(t, "Append", s.Append([]byte("b")))
	stands(t, "in the first sectors", d, append(laid(8, []byte("b")), laid(1, records...)[1:]...)...)
	put(t, d, 512, laid(9, []byte("c"), []byte("d"), []byte("e"))...)
	has(t, "of another epoch", s, some(6, 26624))
	does(t, "Save", s.Save([]byte("next")))
	has(t, "of the new epoch", s, []byte("next"), []byte("c"), []byte("d"), []byte("e"))
	does(t, "Append", s.Append([]byte("f")))
	has(t, "the number 0 is laid", s, []byte("next"), []byte("f"), []byte("d"), []byte("e"))
}

// Records end at the first place at which the next one doesn't stand.
func TestEnds(t *testing.T) {
	a, b, c := []byte("a"), some(1, 250), some(2, 150)
	_, s := made(t)
	l := laid(1, a, b, c) // a stands in the sector 0, b in 1 to 3, c in 4 and 5
	with := func(i, at int, value byte) [][]byte {
		m := slices.Clone(l)
		for j := range m {
			if j == i || i < 0 && j >= 1 && j <= 3 {
				m[j] = slices.Clone(m[j])
				m[j][at] = value
			}
		}
		return m
	}
	moved := func(places ...int) [][]byte {
		var m [][]byte
		for _, i := range places {
			m = append(m, l[i])
		}
		return m
	}
	ends := map[string]struct {
		l    [][]byte
		want int
	}{
		"whole":                    {l, 3},
		"nothing":                  {nil, 0},
		"another epoch":            {with(0, 0, 2), 0},
		"a high epoch":             {with(0, 7, 1), 0},
		"b's epoch":                {with(-1, 0, 2), 1},
		"one part's epoch":         {with(2, 1, 1), 1},
		"a number":                 {with(0, 8, 1), 0},
		"a high number":            {with(0, 11, 1), 0},
		"b's number is a's":        {with(-1, 8, 0), 1},
		"b's number is c's":        {with(-1, 8, 2), 1},
		"one part's number":        {with(3, 8, 2), 1},
		"a place":                  {with(0, 12, 1), 0},
		"a high place":             {with(0, 13, 1), 0},
		"one part's place":         {with(2, 12, 0), 1},
		"one part's high place":    {with(2, 13, 1), 1},
		"no parts":                 {with(0, 14, 0), 0},
		"more parts":               {with(0, 14, 2), 0},
		"many parts":               {with(0, 15, 255), 0},
		"b's parts are fewer":      {with(-1, 14, 2), 1},
		"b's parts are more":       {with(-1, 14, 4), 1},
		"one part's parts":         {with(3, 14, 2), 1},
		"one part's high parts":    {with(3, 15, 1), 1},
		"fewer bytes, as many":     {with(-1, 16, 217), 3},
		"bytes of 2 parts":         {with(-1, 16, 216), 1},
		"bytes of 4 parts":         {with(-1, 17, 2), 1},
		"many bytes":               {with(-1, 19, 255), 1},
		"one part's bytes":         {with(1, 16, 249), 1},
		"another part's bytes":     {with(3, 16, 251), 1},
		"the last one's bytes":     {with(5, 16, 0), 2},
		"turned about":             {moved(0, 2, 1, 3, 4, 5), 1},
		"records turned about":     {moved(0, 4, 5, 1, 2, 3), 1},
		"a sector twice":           {moved(0, 1, 1, 3, 4, 5), 1},
		"a record twice":           {moved(0, 0, 1, 2, 3, 4, 5), 1},
		"a record is lost":         {moved(0, 4, 5), 1},
		"the first one is lost":    {moved(1, 2, 3, 4, 5), 0},
		"a part is lost":           {moved(0, 1, 2, 4, 5), 1},
		"the last part is lost":    {moved(0, 1, 2, 3, 4), 2},
		"a sector between records": {[][]byte{l[0], nil128(), l[1], l[2], l[3]}, 1},
	}
	for what, x := range ends {
		d := disk.New()
		does(t, "Save", opened(t, d).Save([]byte("image")))
		put(t, d, 512, x.l...)
		_, records, e := opened(t, d).Recover()
		if e != api.OK || len(records) != x.want {
			t.Errorf("%s: %d records, %d, want %d", what, len(records), e, x.want)
		}
	}
	has(t, "none as yet", s, []byte("image"))
}

// Each bit ahead of a part ends the records, each bit of a record is told, and those behind its end are not.
func TestEachBit(t *testing.T) {
	records := [][]byte{some(1, 50), some(2, 150), some(3, 5)}
	base, _ := made(t, records...)
	places := []struct{ record, from, size int }{{0, 0, 50}, {1, 0, 108}, {1, 108, 42}, {2, 0, 5}}
	for i, sector := range laid(1, records...) {
		x := places[i]
		for bit := range 128 * 8 {
			d := base.Copy()
			turned := slices.Clone(sector)
			turned[bit/8] ^= 1 << (bit % 8)
			put(t, d, 512+i, turned)
			want := slices.Clone(records)
			switch at := bit/8 - 20; {
			case at >= x.size:
			case at >= 0:
				want[x.record] = slices.Clone(want[x.record])
				want[x.record][x.from+at] = turned[bit/8]
			case x.record != 1 && sized(turned) <= 108: // other bytes, of as many parts
				want[x.record] = turned[20 : 20+sized(turned)]
			default:
				want = want[:x.record]
			}
			if bit/8 < 16 {
				want = records[:x.record]
			}
			has(t, "turned", opened(t, d), []byte("image"), want...)
		}
	}
}

// sized answers how many bytes a sector tells.
func sized(b []byte) int { return int(binary.LittleEndian.Uint32(b[16:])) }

// A sector that can't be read ends the records, if it is of theirs; the others' are of no account.
func TestTorn(t *testing.T) {
	a, b, c := some(1, 50), some(2, 250), some(3, 5)
	whole := []int{0, 1, 1, 1, 2, 3, 3, 3}
	for i, n := range whole {
		d, _ := made(t, a, b, c)
		tear(t, d, 512+i)
		has(t, "torn", opened(t, d), []byte("image"), [][]byte{a, b, c}[:n]...)
	}
	d, s := made(t, a, b)
	does(t, "Save", s.Save([]byte("next")))
	does(t, "Append", s.Append(c))
	tear(t, d, 256)
	has(t, "the elder image", s, []byte("image")) // its first record is written over
	tear(t, d, 0)
	hasNone(t, "no image", s)
}

// Records that others laid may be longer than those that are appended, and reach to the disk's end, not beyond.
func TestLongRecords(t *testing.T) {
	for _, n := range []int{4097, 10000, 108 * 511, 108*511 + 1, 108 * 512} {
		d, s := made(t)
		b := some(int64(n), n)
		put(t, d, 512, laid(1, b)...)
		has(t, "long", s, []byte("image"), b)
	}
	d, s := made(t)
	for i, b := range sectorsOf(1, 0, make([]byte, 108*512+1))[:512] {
		put(t, d, 512+i, b)
	}
	has(t, "beyond the end", s, []byte("image"))
	d, s = made(t)
	put(t, d, 512, laid(1, some(1, 108*510))...)
	put(t, d, 1022, sectorsOf(1, 1, make([]byte, 300))[:2]...)
	has(t, "the second one is beyond the end", s, []byte("image"), some(1, 108*510))
}

// Any epoch that the pair has counts, also one of others.
func TestEpochs(t *testing.T) {
	for _, epoch := range []uint64{0, 1, 255, 1 << 32, api.Ceiling, 1 << 63, math.MaxUint64} {
		d, s := made(t)
		b, _ := d.Read(0)
		binary.LittleEndian.PutUint64(b, epoch)
		put(t, d, 0, b)
		put(t, d, 512, laid(epoch, []byte("a"), some(1, 200))...)
		has(t, "an epoch", s, []byte("image"), []byte("a"), some(1, 200))
		for at := range 8 {
			c := d.Copy()
			b, _ := c.Read(512)
			b[at] ^= 1
			put(t, c, 512, b)
			has(t, "another epoch", opened(t, c), []byte("image"))
		}
	}
	d := disk.New()
	put(t, d, 400, binary.LittleEndian.AppendUint64(nil, api.Ceiling-1))
	s := opened(t, d)
	does(t, "Save of the last number", s.Save([]byte("last")))
	isFresh(t, "the last number", s, []byte("last"))
	refuses(t, "Save above the ceiling", s.Save([]byte("above")), api.ErrSpent)
	has(t, "the last number", s, []byte("last"), []byte("one more"))
	isStale(t, "above the ceiling", s, d)
	d = disk.New()
	put(t, d, 400, binary.LittleEndian.AppendUint64(nil, api.Ceiling-1))
	s = opened(t, d)
	refuses(t, "Scrub that has one number", s.Scrub([]byte("once")), api.ErrSpent)
	has(t, "saved once", s, []byte("once"))
	isStale(t, "saved once", s, d)
}

// filled answers a disk whose sectors have bytes that aren't 00, some of them torn, some not safe, and a store's image and records.
func filled(t *testing.T) (*disk.Disk, [][]byte) {
	t.Helper()
	d := disk.New()
	for at := range api.Sectors {
		d.Write(at, some(int64(at), 128)[:120])
	}
	for at := 3; at < 512; at++ {
		d.Write(at, nil)
	}
	for at := range 3 {
		d.Write(at, binary.LittleEndian.AppendUint64(nil, 40))
	}
	for at := 600; at < 700; at++ {
		d.Write(at, nil)
	}
	d.Sync()
	for at := 800; at < 820; at++ {
		d.Write(at, []byte("torn"))
	}
	d.Boot([]byte{2})
	s := opened(t, d)
	does(t, "Save", s.Save([]byte("secret image")))
	records := [][]byte{[]byte("secret"), some(1, 300), some(2, 4096)}
	for _, b := range records {
		does(t, "Append", s.Append(b))
	}
	for at := 900; at < 910; at++ {
		d.Write(at, nil)
		d.Write(at+10, []byte{0, 0, 1})
	}
	return d, records
}

// Scrub: the image twice, and nothing else on the disk.
func TestScrub(t *testing.T) {
	for _, size := range []int{0, 1, 104, 105, 3000, 26624} {
		d, _ := filled(t)
		s := opened(t, d)
		image := some(int64(size), size)
		ops := d.Ops()
		does(t, "Scrub", s.Scrub(image))
		// Behind the Wipe all sectors were written but those that had bytes 00: 600 to 699, and 900 to 909.
		if n := d.Ops() - ops; n != 2*257+512-110+1 {
			t.Fatalf("Scrub has %d changes", n)
		}
		isTwice(t, d, image)
		has(t, "scrubbed", s, image)
		d.Boot([]byte{2}) // all is safe
		isTwice(t, d, image)
		has(t, "booted", opened(t, d), image)
		does(t, "Append", s.Append([]byte("a")))
		stands(t, "appended", d, laid(43, []byte("a"))...)
		has(t, "appended", s, image, []byte("a"))
	}
}

// isTwice asks that both slots have the image alone, and all other sectors bytes 00.
func isTwice(t *testing.T, d *disk.Disk, image []byte) {
	t.Helper()
	stands(t, "scrubbed", d)
	one, two := d.Raw()[:256*128], d.Raw()[256*128:512*128]
	parts := max(1, (len(image)+103)/104)
	for i := range parts {
		x, y := one[i*128:i*128+128], two[i*128:i*128+128]
		want := append(slices.Clone(image[104*i:min(104*i+104, len(image))]), make([]byte, 104)...)[:104]
		if !bytes.Equal(x[8:], y[8:]) || !bytes.Equal(x[24:], want) || x[0]^y[0] != 42^43 {
			t.Fatalf("the part %d: %x, %x", i, x, y)
		}
	}
	if !bytes.Equal(one[parts*128:], make([]byte, (256-parts)*128)) || !bytes.Equal(two[parts*128:], make([]byte, (256-parts)*128)) {
		t.Fatal("there is more in the slots than the image")
	}
}

// A Scrub of a disk that has nothing but bytes 00 behind the image writes nothing there, but syncs.
func TestScrubOfLittle(t *testing.T) {
	d, s := made(t, nil, nil)
	for n, want := range []int{2*257 + 2 + 1, 2*257 + 1, 2*257 + 1} {
		ops := d.Ops()
		does(t, "Scrub", s.Scrub([]byte("image")))
		if d.Ops() != ops+want {
			t.Fatalf("the Scrub %d has %d changes", n, d.Ops()-ops)
		}
	}
	d = disk.New()
	s = opened(t, d)
	does(t, "Scrub of a new disk", s.Scrub([]byte("first")))
	isFresh(t, "the first image", s, []byte("first"))
}

// Sectors are written by rising places, and synced then: what is on the disk at each change at which the power goes off.
func TestOrderOfChanges(t *testing.T) {
	b := some(9, 330)
	for fuse := 1; fuse <= 5; fuse++ {
		d, s := made(t, []byte("a"))
		want := d.Copy()
		d.Fuse(fuse)
		refuses(t, "Append", s.Append(b), api.ErrCrash)
		for i := range min(fuse, 4) {
			want.Write(513+i, sectorsOf(1, 1, b)[i])
		}
		if !bytes.Equal(d.Raw(), want.Raw()) {
			t.Fatalf("Append: %d changes were others", fuse)
		}
		d.Boot(nil) // none of it was safe
		has(t, "lost", opened(t, d), []byte("image"), []byte("a"))
	}
	base, _ := filled(t)
	end := base.Copy()
	does(t, "Scrub", opened(t, end).Scrub([]byte("new")))
	var all []int // the sectors that a Scrub writes behind the Wipe
	for at := 512; at < 1024; at++ {
		if (at < 600 || at >= 700) && (at < 900 || at >= 910) {
			all = append(all, at)
		}
	}
	for n := 1; n <= len(all)+1; n += 1 + n/30 {
		d := base.Copy()
		want := base.Copy()
		p, _ := slot.Open(want, 0, 256)
		if _, e := p.Wipe([]byte("new")); e != api.OK {
			t.Fatal(e)
		}
		d.Fuse(2*257 + n)
		refuses(t, "Scrub", opened(t, d).Scrub([]byte("new")), api.ErrCrash)
		for _, at := range all[:min(n, len(all))] {
			want.Write(at, nil)
		}
		if !bytes.Equal(d.Raw(), want.Raw()) {
			t.Fatalf("Scrub: %d changes were others", n)
		}
		has(t, "the new image", opened(t, d), []byte("new"))
	}
}

// fates answers all lists of n fates.
func fates(n int) [][]byte {
	l := [][]byte{{}}
	for range n {
		var next [][]byte
		for _, f := range l {
			for fate := range byte(3) {
				next = append(next, append(slices.Clone(f), fate))
			}
		}
		l = next
	}
	return l
}

// recovered is what may be recovered: an image, and records.
type recovered struct {
	image   []byte
	records [][]byte
}

// isOneOf asks that what a disk has is one of those.
func isOneOf(t *testing.T, what string, d *disk.Disk, l ...recovered) {
	t.Helper()
	b, records, e := opened(t, d).Recover()
	for _, x := range l {
		if e == api.OK && bytes.Equal(b, x.image) && slices.EqualFunc(records, x.records, bytes.Equal) {
			return
		}
	}
	t.Fatalf("%s: Recover: %x, %x, %d", what, b, records, e)
}

// Whenever the power goes off in an Append, all records that were appended are there, maybe with the one more, and the store goes on when it is opened anew.
func TestPowerGoesOffInAppend(t *testing.T) {
	start := func() (*disk.Disk, *journal.Store) {
		d, s := made(t, some(1, 200), some(2, 200), some(3, 200), some(4, 200)) // these stand where the new ones are laid
		does(t, "Save", s.Save([]byte("next")))
		does(t, "Append", s.Append([]byte("a")))
		return d, s
	}
	for _, size := range []int{0, 100, 108, 109, 250, 432} {
		b := some(9, size)
		parts := len(sectorsOf(2, 1, b))
		for fuse := 1; fuse <= parts+1; fuse++ {
			for _, f := range fates(min(fuse, parts)) {
				d, s := start()
				d.Fuse(fuse)
				refuses(t, "Append", s.Append(b), api.ErrCrash)
				isStale(t, "Append", s, d)
				d.Boot(f)
				want := [][]byte{[]byte("a")}
				if fuse >= parts && !bytes.ContainsAny(f, "\x00\x02") { // all of it stays
					want = append(want, b)
				}
				s = opened(t, d)
				has(t, "the power went off", s, []byte("next"), want...)
				does(t, "Save", s.Save([]byte("anew")))
				has(t, "saved anew", s, []byte("anew"))
				isFresh(t, "saved anew", s, []byte("anew"))
			}
		}
	}
}

// Whenever the power goes off in a Save or a Scrub, what was there is there, or the new image without records.
func TestPowerGoesOffInSave(t *testing.T) {
	records := [][]byte{[]byte("a"), some(1, 300), nil}
	for _, size := range []int{0, 104, 250, 400} {
		b := some(9, size)
		for elder := range 3 { // how many images were saved ahead
			base := disk.New()
			s := opened(t, base)
			for n := range elder {
				does(t, "Save", s.Save([]byte{byte(n)}))
				for i := range 4 {
					does(t, "Append", s.Append(some(int64(i), 100)))
				}
			}
			does(t, "Save", s.Save([]byte("image")))
			for _, r := range records {
				does(t, "Append", s.Append(r))
			}
			parts := max(1, (size+103)/104)
			for fuse := 1; fuse <= parts+1; fuse++ {
				for _, f := range fates(min(fuse, parts)) {
					d := base.Copy()
					s := opened(t, d)
					d.Fuse(fuse)
					refuses(t, "Save", s.Save(b), api.ErrCrash)
					d.Boot(f)
					isOneOf(t, "Save", d, recovered{[]byte("image"), records}, recovered{b, nil})
					does(t, "Save", s.Save([]byte("anew")))
					isFresh(t, "saved anew", s, []byte("anew"))
				}
			}
		}
	}
}

func TestPowerGoesOffInScrub(t *testing.T) {
	base, records := filled(t)
	base.Sync()
	l := [][]byte{nil, {1}, {2}, {0, 1, 2}, {1, 1, 1, 1, 1, 0}, {1, 1, 2, 1}, {2, 1}}
	image := some(9, 300)
	last := false
	for fuse := 1; !last; fuse += 1 + (fuse%257)/8 {
		for _, f := range l {
			d := base.Copy()
			s := opened(t, d)
			d.Fuse(fuse)
			e := s.Scrub(image)
			last = e == api.OK
			if !last {
				refuses(t, "Scrub", e, api.ErrCrash)
				isStale(t, "Scrub", s, d)
			}
			d.Boot(f)
			if fuse > 257 { // it was saved once
				isOneOf(t, "Scrub", d, recovered{image, nil})
			} else {
				isOneOf(t, "Scrub", d, recovered{[]byte("secret image"), records}, recovered{image, nil})
			}
			s = opened(t, d)
			does(t, "Save", s.Save([]byte("anew")))
			isFresh(t, "saved anew", s, []byte("anew"))
		}
	}
}

// A row of power failures, each within the next call: nothing that was done is lost.
func TestPowerGoesOffAgainAndAgain(t *testing.T) {
	for seed := range 60 {
		r := rand.New(rand.NewSource(int64(seed)))
		d := disk.New()
		s := opened(t, d)
		does(t, "Save", s.Save(nil))
		was := recovered{}
		for range 100 {
			next := recovered{drawn(r, 300), nil}
			d.Fuse(r.Intn(8))
			var e api.Errno
			switch n := r.Intn(20); {
			case n == 0:
				e = s.Scrub(next.image)
			case n < 4:
				e = s.Save(next.image)
			default:
				next = recovered{was.image, append(slices.Clone(was.records), drawn(r, 300))}
				e = s.Append(next.records[len(was.records)])
			}
			if e == api.OK {
				was = next
				isOneOf(t, "done", d, was)
				continue
			}
			refuses(t, "a call", e, api.ErrCrash)
			d.Boot(drawn(r, 5))
			isOneOf(t, "the power went off", d, was, next)
			s = opened(t, d)
			was.image, was.records, _ = s.Recover()
			for e = api.ErrCrash; e != api.OK; { // what was recovered is saved as an image, as long as the power goes off
				d.Fuse(r.Intn(4))
				e = s.Save(was.image)
				d.Boot(drawn(r, 5))
				isOneOf(t, "saved anew", d, was, recovered{was.image, nil})
				s = opened(t, d)
				was.image, was.records, _ = s.Recover()
			}
			does(t, "Save", s.Save(was.image))
			was.records = nil
		}
	}
}

// Without power nothing changes; what is there is recovered.
func TestWithoutPower(t *testing.T) {
	d, _ := made(t, []byte("a"), some(1, 300))
	d.Fuse(1)
	d.Write(700, nil)
	as, ops := d.Raw(), d.Ops()
	s := opened(t, d)
	has(t, "without power", s, []byte("image"), []byte("a"), some(1, 300))
	refuses(t, "Save", s.Save([]byte("b")), api.ErrCrash)
	refuses(t, "Scrub", s.Scrub([]byte("b")), api.ErrCrash)
	refuses(t, "Save of too many bytes", s.Save(make([]byte, 26625)), api.ErrLong)
	refuses(t, "Scrub of too many bytes", s.Scrub(make([]byte, 26625)), api.ErrLong)
	isStale(t, "without power", s, d)
	if d.Ops() != ops || !bytes.Equal(d.Raw(), as) {
		t.Error("without power the disk changes")
	}
	has(t, "without power", s, []byte("image"), []byte("a"), some(1, 300))
}

// What is handed in is neither changed nor kept; what is answered may be written over, and shares no memory.
func TestMemory(t *testing.T) {
	memory := some(1, 600)
	d := disk.New()
	s := opened(t, d)
	for _, save := range []func([]byte) api.Errno{s.Scrub, s.Save} {
		does(t, "Save", save(memory[10:300]))
	}
	for _, n := range []int{0, 50, 108, 250} {
		does(t, "Append", s.Append(memory[300:300+n]))
	}
	if !bytes.Equal(memory, some(1, 600)) {
		t.Fatal("what is handed in changes")
	}
	clear(memory)
	want := some(1, 600)
	records := [][]byte{nil, want[300:350], want[300:408], want[300:550]}
	has(t, "handed in memory is cleared", s, want[10:300], records...)
	image, l, _ := s.Recover()
	other, m, _ := s.Recover()
	raw := d.Raw()
	for _, b := range append([][]byte{image}, l...) {
		b = b[:cap(b)]
		for i := range b {
			b[i] ^= 255
		}
	}
	clear(l[:cap(l)])
	if !bytes.Equal(other, want[10:300]) || !slices.EqualFunc(m, records, bytes.Equal) || !bytes.Equal(d.Raw(), raw) {
		t.Fatal("an answer shares memory")
	}
	for i := range m { // nor does a record with another one
		_ = append(m[i], make([]byte, 300)...)
		for j := range m[i][:cap(m[i])] {
			m[i][:cap(m[i])][j] = 255
		}
		for j := i + 1; j < len(m); j++ {
			if !bytes.Equal(m[j], records[j]) {
				t.Fatal("records share memory")
			}
		}
	}
	has(t, "an answer is written over", s, want[10:300], records...)
	isFresh(t, "an answer is written over", s, want[10:300], records...)
}

// The same calls, the same disks.
func TestSameCallsSameDisks(t *testing.T) {
	run := func() []byte {
		d := disk.New()
		s := opened(t, d)
		for i := range 60 {
			if i%20 == 0 {
				_ = s.Save(some(int64(i), 26000/(i+1)))
			}
			if i == 45 {
				_ = s.Scrub(some(50, 3000))
			}
			_ = s.Append(some(int64(i), i*70))
		}
		return d.Raw()
	}
	if !bytes.Equal(run(), run()) {
		t.Error("the same calls make other disks")
	}
}
