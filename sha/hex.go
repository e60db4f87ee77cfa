package sha

import "quaestor/api"

const digits = "0123456789abcdef"

// Hex answers two digits of base 16 for each byte.
func Hex(b []byte) string {
	text := make([]byte, 0, 2*len(b))
	for _, c := range b {
		text = append(text, digits[c>>4], digits[c&0xf])
	}
	return string(text)
}

// Unhex answers the bytes whose Hex s is.
func Unhex(s string) ([]byte, api.Errno) {
	if len(s)%2 != 0 {
		return nil, api.ErrForm
	}
	b := make([]byte, 0, len(s)/2)
	for i := 0; i < len(s); i += 2 {
		high, isHigh := worth(s[i])
		low, isLow := worth(s[i+1])
		if !isHigh || !isLow {
			return nil, api.ErrForm
		}
		b = append(b, high<<4|low)
	}
	return b, api.OK
}

// worth answers what a digit is worth, and whether it is one.
func worth(c byte) (byte, bool) {
	switch {
	case c >= '0' && c <= '9':
		return c - '0', true
	case c >= 'a' && c <= 'f':
		return c - 'a' + 10, true
	}
	return 0, false
}
