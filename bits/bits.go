// Package bits is layer 1: whole numbers as bytes, and bytes as whole numbers.
package bits

import "choragus/api"

const (
	digits   = "0123456789abcdef"
	maxShort = 10 // bytes of the longest short form: 64 bits, seven a byte
	goesOn   = 0x80
)

// Put answers b and behind it the form of n of a width.
func Put(b []byte, n uint64, width int) []byte {
	if !isWidth(width) {
		return copied(b, 0)
	}
	out := copied(b, width)
	for at := width - 1; at >= 0; at-- {
		out = append(out, byte(n>>(8*at)))
	}
	return out
}

// Get answers the number whose form the first bytes of b are.
func Get(b []byte, width int) (uint64, api.Errno) {
	if !isWidth(width) {
		return 0, api.ErrArg
	}
	if len(b) < width {
		return 0, api.ErrShort
	}
	n := uint64(0)
	for _, c := range b[:width] {
		n = n<<8 | uint64(c)
	}
	return n, api.OK
}

// PutShort answers b and behind it the short form of n.
func PutShort(b []byte, n uint64) []byte {
	out := copied(b, maxShort)
	for n >= goesOn {
		out = append(out, byte(n)|goesOn)
		n >>= 7
	}
	return append(out, byte(n))
}

// GetShort answers the number whose short form b begins with, and how many bytes that has.
func GetShort(b []byte) (n uint64, used int, e api.Errno) {
	for at, c := range b {
		// Nine bytes have 63 bits: the tenth has room for one more, and ends the form.
		if at == maxShort-1 && c > 1 {
			return 0, 0, api.ErrForm
		}
		n |= uint64(c&^goesOn) << (7 * at)
		if c >= goesOn {
			continue
		}
		if c == 0 && at > 0 {
			return 0, 0, api.ErrForm
		}
		return n, at + 1, api.OK
	}
	return 0, 0, api.ErrShort
}

// Zig answers the zigzag of n.
func Zig(n int64) uint64 {
	return uint64(n)<<1 ^ uint64(n>>63)
}

// Zag answers the number whose zigzag n is.
func Zag(n uint64) int64 {
	return int64(n>>1) ^ -int64(n&1)
}

// Narrow answers what of n fits a width, and whether that is all of it.
func Narrow(n uint64, width int) (uint64, bool) {
	narrow := uint64(0)
	switch width {
	case 1:
		narrow = uint64(uint8(n))
	case 2:
		narrow = uint64(uint16(n))
	case 4:
		narrow = uint64(uint32(n))
	case 8:
		narrow = n
	default:
		return 0, false
	}
	return narrow, narrow == n
}

// Top answers how many bits n needs.
func Top(n uint64) int {
	top := 0
	for ; n != 0; n >>= 1 {
		top++
	}
	return top
}

// Turn answers n, its bits turned to the left.
func Turn(n uint64, by int) uint64 {
	// The lowest six bits are the remainder by 64 of numbers below 0 too; a shift by 64 leaves nothing.
	left := uint(by) & 63
	return n<<left | n>>(64-left)
}

// Hex answers b's bytes in base 16.
func Hex(b []byte) string {
	out := make([]byte, 0, 2*len(b))
	for _, c := range b {
		out = append(out, digits[c>>4], digits[c&15])
	}
	return string(out)
}

// Unhex answers the bytes whose Hex s is.
func Unhex(s string) ([]byte, api.Errno) {
	if len(s)%2 != 0 {
		return nil, api.ErrForm
	}
	out := make([]byte, len(s)/2)
	for at := range out {
		high, low := digit(s[2*at]), digit(s[2*at+1])
		if high < 0 || low < 0 {
			return nil, api.ErrForm
		}
		out[at] = byte(high<<4 | low)
	}
	return out, api.OK
}

// isWidth tells whether a number's form may have that many bytes.
func isWidth(width int) bool {
	switch width {
	case 1, 2, 4, 8:
		return true
	}
	return false
}

// copied answers b in memory with room of its own: what is laid behind it never lands in the caller's.
func copied(b []byte, room int) []byte {
	out := make([]byte, len(b), len(b)+room)
	copy(out, b)
	return out
}

// digit answers what a digit of base 16 stands for; -1: it is none. Great letters are none: no Hex has them.
func digit(c byte) int {
	switch {
	case '0' <= c && c <= '9':
		return int(c - '0')
	case 'a' <= c && c <= 'f':
		return int(c-'a') + 10
	}
	return -1
}
