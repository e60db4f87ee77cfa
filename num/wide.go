package num

import "quaestor/api"

const (
	quarters   = 4  // quarters of 32 bits in a wide number
	mostDigits = 39 // digits of 2^127 in base 10
)

// Wide answers n as a wide number.
func Wide(n int64) api.Wide {
	return api.Wide{Hi: n >> 63, Lo: uint64(n)}
}

// Add answers the sum of a and b.
func Add(a, b api.Wide) (api.Wide, api.Errno) {
	sum := api.Wide{Hi: a.Hi + b.Hi, Lo: a.Lo + b.Lo}
	if sum.Lo < a.Lo {
		sum.Hi++
	}
	// A sum is over only where both are on one side of 0 and it came out on the other.
	if (a.Hi < 0) == (b.Hi < 0) && (sum.Hi < 0) != (a.Hi < 0) {
		return api.Wide{}, api.ErrOver
	}
	return sum, api.OK
}

// Less tells whether a is below b.
func Less(a, b api.Wide) bool {
	if a.Hi != b.Hi {
		return a.Hi < b.Hi
	}
	return a.Lo < b.Lo
}

// Text answers the digits of a in base 10.
func Text(a api.Wide) string {
	rest := apart(a)
	var text [1 + mostDigits]byte
	at := len(text)
	for at == len(text) || rest != [quarters]uint32{} {
		at--
		text[at] = '0' + tenth(&rest)
	}
	if a.Hi < 0 {
		at--
		text[at] = '-'
	}
	return string(text[at:])
}

// apart answers the quarters of the size of a, the highest first.
func apart(a api.Wide) [quarters]uint32 {
	hi, lo := uint64(a.Hi), a.Lo
	if a.Hi < 0 {
		hi, lo = ^hi, -lo
		if lo == 0 {
			hi++
		}
	}
	return [quarters]uint32{uint32(hi >> 32), uint32(hi), uint32(lo >> 32), uint32(lo)}
}

// tenth turns a number of quarters into its tenth, and answers what is left over.
func tenth(rest *[quarters]uint32) byte {
	var left uint64
	for i := range quarters {
		// Two halves fit into 64 bits, as what is left over is below 10.
		whole := left<<32 | uint64(rest[i])
		rest[i], left = uint32(whole/10), whole%10
	}
	return byte(left)
}
