package delta_test

import (
	"math"
	"math/big"
	"math/rand"
	"slices"
	"strings"
	"testing"

	"quaestor/api"
	"quaestor/delta"
)

// The chapter told once more, by numbers of any size and by rows that are gone through by themselves; its reader looks at each thing that must hold, and lays nothing again.

var round = new(big.Int).Lsh(big.NewInt(1), 64) // where numbers of 64 bits go round

// tellZig answers the zigzag of a minus b, modulo 2^64.
func tellZig(a, b *big.Int) *big.Int {
	d := new(big.Int).Sub(a, b)
	d.Mod(d, round)
	if d.Bit(63) == 1 { // below 0: 2^64 - d below it
		d.Sub(round, d)
		return d.Lsh(d, 1).Sub(d, big.NewInt(1))
	}
	return d.Lsh(d, 1)
}

func tellShort(n *big.Int) []byte {
	var b []byte
	rest := new(big.Int).Set(n)
	seven := big.NewInt(128)
	for rest.Cmp(seven) >= 0 {
		digit := new(big.Int)
		rest.DivMod(rest, seven, digit)
		b = append(b, byte(digit.Int64()+128))
	}
	return append(b, byte(rest.Int64()))
}

func tellCount(n int) []byte { return tellShort(big.NewInt(int64(n))) }

// tellRows answers how many pieces each row has.
func tellRows(l []api.Piece) []int {
	var rows []int
	last := ""
	for i, p := range l {
		if i > 0 && p.Series == last {
			rows[len(rows)-1]++
		} else {
			rows = append(rows, 1)
		}
		last = p.Series
	}
	return rows
}

func tellForm(l []api.Piece) []byte {
	rows := tellRows(l)
	form := tellCount(len(rows))
	for _, many := range rows {
		form = append(form, tellCount(len(l[0].Series))...)
		form = append(form, l[0].Series...)
		form = append(form, tellCount(many)...)
		for i := range many {
			form = append(form, tellPiece(l, i)...)
		}
		l = l[many:]
	}
	return form
}

// tellPiece answers the bytes of the piece i of a row, by looking back at those ahead of it.
func tellPiece(row []api.Piece, i int) []byte {
	at := func(i int) *big.Int {
		if i < 0 {
			return new(big.Int)
		}
		return big.NewInt(row[i].T)
	}
	step := func(i int) *big.Int {
		if i < 0 {
			return new(big.Int)
		}
		return new(big.Int).Sub(at(i), at(i-1))
	}
	v := new(big.Int)
	if i > 0 {
		v.SetInt64(row[i-1].V)
	}
	b := tellShort(tellZig(step(i), step(i-1)))
	b = append(b, tellShort(tellZig(big.NewInt(row[i].V), v))...)
	b = append(b, tellShort(new(big.Int).SetUint64(row[i].Id.N))...)
	return append(b, byte(row[i].Id.Node%256), byte(row[i].Id.Node/256))
}

func tellRoom(l []api.Piece) int {
	room, at := 4+32*len(l), 0
	for _, many := range tellRows(l) {
		room += 6 + len(l[at].Series)
		at += many
	}
	return room
}

func tellCheck(l []api.Piece) api.Errno {
	if len(l) > 256 || tellRoom(l) > 4096 {
		return api.ErrLong
	}
	for i, p := range l {
		if p.Series == "" || len(p.Series) > 200 {
			return api.ErrArg
		}
		if i == 0 {
			continue
		}
		n := strings.Compare(l[i-1].Series, p.Series)
		if n > 0 || n == 0 && l[i-1].T >= p.T {
			return api.ErrArg
		}
	}
	return api.OK
}

func tellLay(l []api.Piece) ([]byte, api.Errno) {
	if e := tellCheck(l); e != api.OK {
		return nil, e
	}
	form := tellForm(l)
	b := append([]byte{byte(len(form) % 256), byte(len(form) / 256)}, form...)
	for len(b) < tellRoom(l) {
		b = append(b, 0)
	}
	return b, api.OK
}

// scan reads a form from its front; once something is wrong it stays wrong.
type scan struct {
	b     []byte
	wrong bool
}

func (s *scan) one() byte {
	if len(s.b) == 0 {
		s.wrong = true
		return 0
	}
	c := s.b[0]
	s.b = s.b[1:]
	return c
}

// short answers a number below 2^64 whose short form has no bytes that it could do without.
func (s *scan) short() *big.Int {
	n := new(big.Int)
	for i := uint(0); !s.wrong; i++ {
		c := s.one()
		n.Add(n, new(big.Int).Lsh(big.NewInt(int64(c%128)), 7*i))
		if c < 128 {
			s.wrong = s.wrong || c == 0 && i > 0 || n.Cmp(round) >= 0
			break
		}
	}
	if s.wrong {
		n.SetInt64(0)
	}
	return n
}

// least answers a number that is at least as told and at most as many as there are bytes.
func (s *scan) least(n int64) int {
	m := s.short()
	if m.Cmp(big.NewInt(n)) < 0 || m.Cmp(big.NewInt(int64(len(s.b)))) > 0 {
		s.wrong = true
		return 0
	}
	return int(m.Int64())
}

// zag answers the number whose zigzag is told.
func zag(zig *big.Int) *big.Int {
	d := new(big.Int).Rsh(zig, 1)
	if zig.Bit(0) == 1 {
		return d.Add(d, big.NewInt(1)).Neg(d)
	}
	return d
}

// plus answers the sum as a number of 64 bits, which goes round.
func plus(a, b *big.Int) *big.Int {
	d := new(big.Int).Add(a, b)
	d.Mod(d, round)
	if d.Bit(63) == 1 {
		d.Sub(d, round)
	}
	return d
}

func (s *scan) row() []api.Piece {
	text := make([]byte, s.least(1))
	for i := range text {
		text[i] = s.one()
	}
	t, step, v := new(big.Int), new(big.Int), new(big.Int)
	var l []api.Piece
	for range s.least(1) {
		step = plus(step, zag(s.short()))
		t, v = plus(t, step), plus(v, zag(s.short()))
		n := s.short().Uint64()
		node := uint16(s.one()) + 256*uint16(s.one())
		l = append(l, api.Piece{Series: string(text), T: t.Int64(), V: v.Int64(), Id: api.Id{N: n, Node: node}})
	}
	return l
}

func tellRead(b []byte) ([]api.Piece, api.Errno) {
	if len(b) < 2 {
		return nil, api.ErrShort
	}
	told := int(b[0]) + 256*int(b[1])
	if len(b)-2 < told {
		return nil, api.ErrShort
	}
	s := &scan{b: b[2 : 2+told]}
	var l []api.Piece
	last := ""
	for range s.least(0) {
		row := s.row()
		if s.wrong || row[0].Series <= last {
			return nil, api.ErrForm
		}
		last = row[0].Series
		l = append(l, row...)
	}
	if s.wrong || len(s.b) > 0 || tellCheck(l) != api.OK || len(b) != tellRoom(l) {
		return nil, api.ErrForm
	}
	for _, c := range b[2+told:] {
		if c != 0 {
			return nil, api.ErrForm
		}
	}
	return l, api.OK
}

// holds asks what a list's room, check and bytes are, and that these are read as it was.
func holds(t *testing.T, l []api.Piece) {
	t.Helper()
	if got, want := delta.Room(l), tellRoom(l); got != want {
		t.Fatalf("Room of %d pieces = %d, want %d", len(l), got, want)
	}
	if got, want := delta.Check(l), tellCheck(l); got != want {
		t.Fatalf("Check of %d pieces = %d, want %d", len(l), got, want)
	}
	want, wantE := tellLay(l)
	got, e := delta.Lay(l)
	if e != wantE {
		t.Fatalf("Lay of %d pieces: %d, want %d", len(l), e, wantE)
	}
	asks(t, "laid", got, want)
	if e != api.OK {
		return
	}
	if len(got) != delta.Room(l) {
		t.Fatalf("%d bytes are laid, and the room is %d", len(got), delta.Room(l))
	}
	again, e := delta.Read(got)
	if e != api.OK {
		t.Fatalf("Read of what was laid: %d", e)
	}
	asks(t, "read", again, l)
}

// reads asks what these bytes are read as.
func reads(t *testing.T, what string, b []byte) api.Errno {
	t.Helper()
	want, wantE := tellRead(b)
	got, e := delta.Read(b)
	if e != wantE {
		t.Fatalf("Read of %s (%x): %d, want %d", what, b[:min(len(b), 80)], e, wantE)
	}
	asks(t, "read of "+what, got, want)
	return e
}

// edges are numbers about the ends of signed ones, and of their short forms.
func edges() []int64 {
	l := []int64{0, 1, 2, 3, 62, 63, 64, 65, 127, 128, 8191, 8192, math.MaxInt32, math.MaxInt64 / 2, math.MaxInt64/2 + 1, math.MaxInt64 - 2, math.MaxInt64 - 1, math.MaxInt64}
	for _, n := range slices.Clone(l) {
		l = append(l, -n-1)
	}
	return l
}

func drawNumber(r *rand.Rand) int64 {
	if r.Intn(3) == 0 {
		return edges()[r.Intn(len(edges()))]
	}
	return int64(r.Uint64()) >> r.Intn(64)
}

func drawSeries(r *rand.Rand) string {
	if r.Intn(4) == 0 {
		return long([]int{1, 2, 22, 127, 128, 199, 200}[r.Intn(7)])
	}
	b := make([]byte, 1+r.Intn(6))
	for i := range b {
		b[i] = []byte{0, 'a', 'b', 0x7f, 0x80, 0xff}[r.Intn(6)]
	}
	return string(b)
}

// drawList answers pieces that stand in order, no two of one series and time; there may be too many.
func drawList(r *rand.Rand, rows, most int) []api.Piece {
	var l []api.Piece
	for range r.Intn(rows + 1) {
		series := drawSeries(r)
		from, step := drawNumber(r), int64(r.Intn(100))
		for i := range 1 + r.Intn(most) {
			at := from + int64(i)*step
			if r.Intn(3) == 0 {
				at = drawNumber(r)
			}
			l = append(l, api.Piece{Series: series, T: at, V: drawNumber(r), Id: api.Id{N: uint64(drawNumber(r)), Node: uint16(drawNumber(r))}})
		}
	}
	slices.SortStableFunc(l, func(a, b api.Piece) int {
		if n := strings.Compare(a.Series, b.Series); n != 0 {
			return n
		}
		if a.T < b.T {
			return -1
		}
		if a.T > b.T {
			return 1
		}
		return 0
	})
	return slices.CompactFunc(l, func(a, b api.Piece) bool { return a.Series == b.Series && a.T == b.T })
}

// spoil answers pieces that mostly may not be laid.
func spoil(r *rand.Rand, l []api.Piece) []api.Piece {
	l = slices.Clone(l)
	if len(l) == 0 {
		return l
	}
	i, j := r.Intn(len(l)), r.Intn(len(l))
	switch r.Intn(6) {
	case 0:
		l[i], l[j] = l[j], l[i]
	case 1:
		l[i].Series = l[j].Series
	case 2:
		l[i].T = l[j].T
	case 3:
		l[i].Series = long([]int{0, 200, 201, 4000, 5000}[r.Intn(5)])
	case 4:
		more := l[i]
		more.Id.N++
		l = slices.Insert(l, i+1, more)
	case 5:
		slices.Reverse(l)
	}
	return l
}

func TestListsByChance(t *testing.T) {
	r := rand.New(rand.NewSource(14))
	fit := 0
	for i := range 6000 {
		l := drawList(r, 1+i%8, 1+i%31)
		holds(t, l)
		if delta.Check(l) == api.OK {
			fit++
		}
		holds(t, spoil(r, l))
	}
	if fit < 4000 {
		t.Errorf("only %d lists may be laid", fit)
	}
}

// change answers bytes that differ a little: one is set, put in or taken out, some are cut off, or the told length is another one.
func change(r *rand.Rand, b []byte) []byte {
	b = slices.Clone(b)
	i := r.Intn(len(b))
	if r.Intn(2) == 0 {
		i %= 24 // where the form is
	}
	i = min(i, len(b)-1)
	some := []byte{0, 1, 2, 0x7f, 0x80, 0x81, 0xff, byte(r.Intn(256))}[r.Intn(8)]
	switch r.Intn(8) {
	case 0:
		return slices.Delete(b, i, i+1)
	case 1:
		return slices.Insert(b, i, some)
	case 2:
		return b[:i]
	case 3:
		return append(b, some)
	case 4:
		b[0] += byte(r.Intn(5) - 2)
	case 5:
		b = slices.Insert(b, i, some) // longer by one, and told so
		b[0]++
	default:
		b[i] = some
	}
	return b
}

func TestBytesByChance(t *testing.T) {
	r := rand.New(rand.NewSource(41))
	told := [api.ErrOver + 1]int{}
	for range 1500 {
		b, e := delta.Lay(drawList(r, 4, 5))
		if e != api.OK {
			continue
		}
		for range 25 {
			c := change(r, b)
			told[reads(t, "changed bytes", c)]++
			if len(c) > 0 {
				told[reads(t, "bytes that are changed twice", change(r, c))]++
			}
		}
	}
	if told[api.OK] < 4000 || told[api.ErrForm] < 20000 || told[api.ErrShort] < 4000 {
		t.Errorf("told were %v", told)
	}
}
