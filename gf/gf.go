// Package gf is layer 2: see shared/doc/02-gf.md.
package gf

import "math/bits"

// Boxes are AES's.
type Boxes struct{ to, back [256]byte }

// Double is the product with x.
func Double(a byte) byte {
	if a&0x80 != 0 {
		// What is left of 11b when its x^8 has fallen out of the byte.
		return a<<1 ^ 0x1b
	}
	return a << 1
}

// Times is a product.
func Times(a, b byte) byte {
	var sum byte
next:
	if b&1 != 0 {
		sum ^= a
	}
	a, b = Double(a), b>>1
	if b != 0 {
		goto next
	}
	return sum
}

// Power is a power.
func Power(a byte, n int) byte {
	if n < 0 {
		return 0
	}
	// By squares, because n may be as great as an int can be.
	product := byte(1)
next:
	if n&1 != 0 {
		product = Times(product, a)
	}
	a, n = Times(a, a), n>>1
	if n != 0 {
		goto next
	}
	return product
}

// Inverse is the inverse.
func Inverse(a byte) byte {
	// The power of 255 of all but 0 is 1, so that of 254 is the inverse; and that of 0 is 0.
	return Power(a, 254)
}

// Make makes boxes.
func Make() *Boxes {
	t := &Boxes{}
	t.put(0, 0)
	// All elements but 0 are powers of 3, and their inverses are those of the inverse of 3.
	third := Inverse(3)
	element, inverse := byte(1), byte(1)
	for range 255 {
		t.put(element, inverse)
		element, inverse = Times(element, 3), Times(inverse, third)
	}
	return t
}

// put lays the box of a byte, whose inverse is known, there and back.
func (t *Boxes) put(a, inverse byte) {
	box := inverse ^ 0x63
	for turn := range 4 {
		box ^= bits.RotateLeft8(inverse, turn+1)
	}
	t.to[a], t.back[box] = box, a
}

// To is the box of a byte.
func (t *Boxes) To(a byte) byte {
	if t == nil {
		return 0
	}
	return t.to[a]
}

// Back is the box back.
func (t *Boxes) Back(a byte) byte {
	if t == nil {
		return 0
	}
	return t.back[a]
}
