package slot

import "quaestor/num"

// How many bytes each number ahead of a part has.
const (
	numberSize = 8
	placeSize  = 2
	partsSize  = 2
	bytesSize  = 4
	sumSize    = 8
)

// head is what stands ahead of a part: the number and the place, and how many parts and bytes there are, of what short fingerprint.
type head struct {
	number uint64
	place  int
	parts  int
	size   int
	sum    uint64
}

// headOf answers what stands ahead of a sector's part, and the part with what is behind it.
func headOf(sector []byte) (head, []byte) {
	take := func(width int) uint64 {
		n, _ := num.Get(sector, width) // a sector has room for all of them
		sector = sector[width:]
		return n
	}
	var h head
	h.number = take(numberSize)
	h.place = int(take(placeSize))
	h.parts = int(take(partsSize))
	h.size = int(take(bytesSize))
	h.sum = take(sumSize)
	return h, sector
}

// form answers the bytes that stand ahead of the part.
func (h head) form() []byte {
	b := num.Put(nil, h.number, numberSize)
	b = num.Put(b, uint64(h.place), placeSize)
	b = num.Put(b, uint64(h.parts), partsSize)
	b = num.Put(b, uint64(h.size), bytesSize)
	return num.Put(b, h.sum, sumSize)
}

// fits tells whether so many sectors have room for the parts, and as many bytes have as many parts (none have fewer than one).
func (h head) fits(k int) bool {
	return h.parts <= k && h.parts == parts(h.size)
}
