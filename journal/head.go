package journal

import "quaestor/num"

// How many bytes each number ahead of a part has.
const (
	epochSize  = 8
	numberSize = 4
	placeSize  = 2
	partsSize  = 2
	bytesSize  = 4
)

// head is what stands ahead of a part: the record's epoch and number, the part's place, and how many parts and bytes there are.
type head struct {
	epoch  uint64
	number int
	place  int
	parts  int
	size   int
}

// headOf answers what stands ahead of a sector's part, and the part with what is behind it.
func headOf(sector []byte) (head, []byte) {
	take := func(width int) uint64 {
		n, _ := num.Get(sector, width) // a sector has room for all of them
		sector = sector[width:]
		return n
	}
	var h head
	h.epoch = take(epochSize)
	h.number = int(take(numberSize))
	h.place = int(take(placeSize))
	h.parts = int(take(partsSize))
	h.size = int(take(bytesSize))
	return h, sector
}

// form answers the bytes that stand ahead of the part.
func (h head) form() []byte {
	b := num.Put(nil, h.epoch, epochSize)
	b = num.Put(b, uint64(h.number), numberSize)
	b = num.Put(b, uint64(h.place), placeSize)
	b = num.Put(b, uint64(h.parts), partsSize)
	return num.Put(b, uint64(h.size), bytesSize)
}

// begins tells whether a record of that epoch and number begins so.
func (h head) begins(epoch uint64, number int) bool {
	return h.epoch == epoch && h.number == number && h.parts == parts(h.size)
}

// parts answers how many parts so many bytes have: one without bytes, if there are none.
func parts(size int) int {
	return max(1, (size+Part-1)/Part)
}
