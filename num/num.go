// Package num has numbers of two and four bytes, and flags: layer 1.
package num

// Put16 is the bytes with numbers of two bytes behind them, the high byte first.
func Put16(b []byte, ns ...uint16) []byte {
	out := make([]byte, 0, len(b)+2*len(ns))
	out = append(out, b...)
	for _, n := range ns {
		out = append(out, byte(n>>8), byte(n))
	}
	return out
}

// Put32 is the bytes with numbers of four bytes behind them, the high byte first.
func Put32(b []byte, ns ...uint32) []byte {
	out := make([]byte, 0, len(b)+4*len(ns))
	out = append(out, b...)
	for _, n := range ns {
		out = append(out, byte(n>>24), byte(n>>16), byte(n>>8), byte(n))
	}
	return out
}

// Get16 is the number of two bytes at a place; false, if they are not all there.
func Get16(b string, at int) (uint16, bool) {
	if !within(b, at, 2) {
		return 0, false
	}
	return uint16(b[at])<<8 | uint16(b[at+1]), true
}

// Get32 is the number of four bytes at a place; false, if they are not all there.
func Get32(b string, at int) (uint32, bool) {
	if !within(b, at, 4) {
		return 0, false
	}
	return uint32(b[at])<<24 | uint32(b[at+1])<<16 | uint32(b[at+2])<<8 | uint32(b[at+3]), true
}

// within subtracts, since at plus size may be beyond the greatest int.
func within(b string, at, size int) bool {
	return at >= 0 && at <= len(b)-size
}

// Bits is the number whose low bits are the flags, the last one lowest.
func Bits(fs ...bool) uint16 {
	n := uint16(0)
	for _, f := range fs {
		n <<= 1
		if f {
			n |= 1
		}
	}
	return n
}

// Flags are so many of a number's low bits, the lowest one last.
func Flags(n uint16, many int) []bool {
	many = max(0, min(many, 16))
	out := make([]bool, many)
	for i := range many {
		out[i] = n>>(many-1-i)&1 == 1
	}
	return out
}
