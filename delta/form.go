package delta

import (
	"quaestor/api"
	"quaestor/num"
)

// track is what differences are told from: the time, its step and the value of the piece ahead in the row, all 0 at first. They go round, as unsigned numbers do.
type track struct {
	t, step, v uint64
}

// tell goes on to p, and answers by what its time's step and its value differ from those ahead.
func (r *track) tell(p api.Piece) (turn, rise int64) {
	ahead := *r
	r.t, r.v = uint64(p.T), uint64(p.V)
	r.step = r.t - ahead.t
	return int64(r.step - ahead.step), int64(r.v - ahead.v)
}

// hear goes on by these differences, and answers the time and the value to which they lead.
func (r *track) hear(turn, rise int64) (t, v int64) {
	r.step += uint64(turn)
	r.t += r.step
	r.v += uint64(rise)
	return int64(r.t), int64(r.v)
}

// formOf answers the form of pieces that may be laid.
func formOf(l []api.Piece) []byte {
	rows := rowsOf(l)
	var form []byte
	short := func(n uint64) { form = append(form, num.PutShort(nil, n)...) }
	short(uint64(len(rows)))
	for _, row := range rows {
		short(uint64(len(row[0].Series)))
		form = append(form, row[0].Series...)
		short(uint64(len(row)))
		var at track
		for _, p := range row {
			turn, rise := at.tell(p)
			short(num.Zig(turn))
			short(num.Zig(rise))
			short(p.Id.N)
			form = append(form, num.Put(nil, uint64(p.Id.Node), nodeWidth)...)
		}
	}
	return form
}

// rowsOf cuts l where another series begins.
func rowsOf(l []api.Piece) [][]api.Piece {
	var rows [][]api.Piece
	from := 0
	for i := range l {
		if i+1 == len(l) || begins(l, i+1) {
			rows = append(rows, l[from:i+1])
			from = i + 1
		}
	}
	return rows
}

// piecesOf answers the pieces whose form these bytes are; of bytes that are none, those that are read until something is wrong.
func piecesOf(form []byte) []api.Piece {
	var l []api.Piece
	good := true
	short := func() uint64 {
		n, used, e := num.GetShort(form)
		good = good && e == api.OK
		form = form[used:]
		return n
	}
	take := func(n uint64) []byte {
		if n > uint64(len(form)) {
			good, n = false, 0
		}
		taken := form[:n]
		form = form[n:]
		return taken
	}
rows:
	for range short() {
		series := string(take(short()))
		var at track
		for range short() {
			turn, rise, n := num.Zag(short()), num.Zag(short()), short()
			node, _ := num.Get(take(nodeWidth), nodeWidth)
			t, v := at.hear(turn, rise)
			if !good {
				break rows // a number of pieces may be told that no bytes are there for
			}
			l = append(l, api.Piece{Series: series, T: t, V: v, Id: api.Id{N: n, Node: uint16(node)}})
		}
		if !good {
			break rows
		}
	}
	return l
}
