package aead

import (
	"quaestor/api"
	"quaestor/num"
)

// How many bytes of a nonce each of its parts has.
const (
	countSize = 8
	nodeSize  = 2
	restSize  = len(api.Nonce{}) - countSize - nodeSize
)

// NonceOf answers the nonce of a node's count.
func NonceOf(node uint16, count uint64) (api.Nonce, api.Errno) {
	if count > api.Ceiling {
		return api.Nonce{}, api.ErrSpent
	}
	laid := num.Put(nil, count, countSize)
	laid = num.Put(laid, uint64(node), nodeSize)
	return api.Nonce(num.Put(laid, 0, restSize)), api.OK
}

// CountOf answers the node and the count of a nonce, whatever its last bytes are.
func CountOf(n api.Nonce) (node uint16, count uint64) {
	count, _ = num.Get(n[:], countSize) // a nonce has all of its bytes
	low, _ := num.Get(n[countSize:], nodeSize)
	return uint16(low), count
}
