package poly

import (
	"quaestor/api"
	"quaestor/num"
)

const (
	limbs    = 5
	limbBits = 26
	limbMask = 1<<limbBits - 1
	back     = 5 // what 2^130 is modulo 2^130 - 5
	halfSize = 8 // bytes of half a tag
)

// number is a number as limbs of 26 bits, the lowest first. A limb may have more bits until they are handed on.
type number [limbs]uint64

// plus answers the sum of n and m; nothing is handed on.
func (n number) plus(m number) number {
	for i := range n {
		n[i] += m[i]
	}
	return n
}

// times answers n times r modulo 2^130 - 5. Of n a limb has at most 28 bits, of r 26: so no sum of products goes round.
func (n number) times(r number) number {
	var product number
	for i := range n {
		for j := range r {
			if i+j < limbs {
				product[i+j] += n[i] * r[j]
			} else {
				product[i+j-limbs] += n[i] * r[j] * back
			}
		}
	}
	return product.reduced()
}

// reduced answers n modulo 2^130 - 5 with limbs of 26 bits, but for the second one, which may have some more.
func (n number) reduced() number {
	over := n.handOn()
	n[0] += over * back
	n[1] += n[0] >> limbBits
	n[0] &= limbMask
	return n
}

// handOn leaves 26 bits to each limb, and answers what goes beyond the last one.
func (n *number) handOn() uint64 {
	var over uint64
	for i := range n {
		n[i] += over
		over = n[i] >> limbBits
		n[i] &= limbMask
	}
	return over
}

// rest answers what is left over of n by 2^130 - 5; n is 0, or one that reduced answered, so that it is below twice that.
// Which of the two numbers it is shows in no branch, as it hangs on the key.
func (n number) rest() number {
	less := n
	less[0] += back
	mask := -less.handOn() // all bits, if n and 5 reach 2^130
	for i := range n {
		n[i] ^= (n[i] ^ less[i]) & mask
	}
	return n
}

// tag answers n modulo 2^128 as bytes, the lowest first.
func (n number) tag() api.Tag {
	n.handOn()
	low := n[0] | n[1]<<26 | n[2]<<52
	high := n[2]>>12 | n[3]<<14 | n[4]<<40
	var t api.Tag
	copy(t[:], num.Put(num.Put(nil, low, halfSize), high, halfSize))
	return t
}
