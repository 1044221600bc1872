// Package octet is layer 1: see shared/doc/01-octet.md.
package octet

import "math/bits"

// Wide is a number of 128 bits.
type Wide struct{ Lo, Hi uint64 }

// teller answers what tells the byte of b that stands i places behind at, for i from 0 on.
func teller(b []byte, at int) func(i int) byte {
	return func(i int) byte {
		// at + i might go round, so at itself is held against the bounds.
		if at < -i || at >= len(b)-i {
			return 0
		}
		return b[at+i]
	}
}

// Word is four bytes as a number.
func Word(b []byte, at int) uint32 {
	tell := teller(b, at)
	var n uint32
	for i := range 4 {
		n |= uint32(tell(i)) << (8 * i)
	}
	return n
}

// Long is eight bytes as a number.
func Long(b []byte, at int) uint64 {
	tell := teller(b, at)
	var n uint64
	for i := range 8 {
		n |= uint64(tell(i)) << (8 * i)
	}
	return n
}

// PutWord is a number's bytes.
func PutWord(n uint32) [4]byte {
	var out [4]byte
	for i := range 4 {
		out[i] = byte(n >> (8 * i))
	}
	return out
}

// PutLong is a number's bytes.
func PutLong(n uint64) [8]byte {
	var out [8]byte
	for i := range 8 {
		out[i] = byte(n >> (8 * i))
	}
	return out
}

// Load is sixteen bytes as a number.
func Load(b []byte) Wide { return Wide{Lo: Long(b, 0), Hi: Long(b, 8)} }

// Bytes are a number's.
func (w Wide) Bytes() [16]byte {
	lo, hi := PutLong(w.Lo), PutLong(w.Hi)
	var out [16]byte
	copy(out[:8], lo[:])
	copy(out[8:], hi[:])
	return out
}

// Plus is a sum.
func (w Wide) Plus(v Wide) Wide {
	lo, carry := bits.Add64(w.Lo, v.Lo, 0)
	hi, _ := bits.Add64(w.Hi, v.Hi, carry)
	return Wide{Lo: lo, Hi: hi}
}

// Minus is a difference.
func (w Wide) Minus(v Wide) Wide {
	lo, borrow := bits.Sub64(w.Lo, v.Lo, 0)
	hi, _ := bits.Sub64(w.Hi, v.Hi, borrow)
	return Wide{Lo: lo, Hi: hi}
}

// Block is sixteen bytes.
func Block(b []byte) [16]byte {
	var out [16]byte
	copy(out[:], b)
	return out
}

// Xor is the exclusive or of two rows.
func Xor(a, b []byte) []byte {
	out := make([]byte, min(len(a), len(b)))
	for i := range len(out) {
		out[i] = a[i] ^ b[i]
	}
	return out
}

// Same tells whether two rows are.
func Same(a, b []byte) bool {
	if len(a) != len(b) {
		return false
	}
	// No early end: how long it takes must not tell where the rows differ.
	var differ byte
	for i := range len(a) {
		differ |= a[i] ^ b[i]
	}
	return differ == 0
}

// Padded puts noughts behind.
func Padded(b []byte, size int) []byte {
	out := make([]byte, roundedUp(len(b), size))
	copy(out, b)
	return out
}

// Marked puts a mark and noughts behind.
func Marked(b []byte, mark byte, size int) []byte {
	out := make([]byte, roundedUp(len(b)+1, size))
	copy(out, b)
	out[len(b)] = mark
	return out
}

// roundedUp is the least multiple of size from n on, or n if size is below 1.
func roundedUp(n, size int) int {
	if size < 1 {
		return n
	}
	return n + (size-n%size)%size
}
