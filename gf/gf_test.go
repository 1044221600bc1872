package gf_test

import (
	"math"
	"testing"

	"wringer/gf"
)

// product is the product of two polynomials, whole first and divided then: another way than the package's.
func product(a, b byte) byte {
	var whole int
	for i := range 8 {
		if b>>i&1 == 1 {
			whole ^= int(a) << i
		}
	}
	for i := 14; i >= 8; i-- {
		if whole>>i&1 == 1 {
			whole ^= 0x11b << (i - 8)
		}
	}
	return byte(whole)
}

// inverse is looked for among all elements.
func inverse(a byte) byte {
	for b := range 256 {
		if product(a, byte(b)) == 1 {
			return byte(b)
		}
	}
	return 0
}

// box goes bit by bit: each is a sum of five bits of the inverse, and one of 63.
func box(a byte) byte {
	i, out := inverse(a), byte(0)
	for bit := range 8 {
		sum := byte(0x63) >> bit
		for turn := range 5 {
			sum ^= i >> ((bit + 8 - turn) % 8)
		}
		out |= sum & 1 << bit
	}
	return out
}

func TestProducts(t *testing.T) {
	for a := range 256 {
		if got := gf.Double(byte(a)); got != product(byte(a), 2) {
			t.Errorf("P2.1: Double of %x is %x", a, got)
		}
		for b := range 256 {
			if got := gf.Times(byte(a), byte(b)); got != product(byte(a), byte(b)) {
				t.Fatalf("P2.1: Times of %x and %x is %x", a, b, got)
			}
		}
	}
	if gf.Times(87, 131) != 193 || gf.Times(0x57, 0x13) != 0xfe || gf.Double(0x80) != 0x1b {
		t.Error("P2.1: the known products")
	}
}

func TestPowersOneByOne(t *testing.T) {
	for a := range 256 {
		want := byte(1)
		for n := range 600 {
			if got := gf.Power(byte(a), n); got != want {
				t.Fatalf("P2.1: Power of %x and %d is %x, not %x", a, n, got, want)
			}
			want = product(want, byte(a))
		}
	}
}

func TestPowersAtTheEdges(t *testing.T) {
	for a := range 256 {
		if gf.Power(byte(a), 0) != 1 {
			t.Errorf("P2.1: Power of %x and 0", a)
		}
		for _, n := range []int{-1, -2, -255, math.MinInt + 1, math.MinInt} {
			if got := gf.Power(byte(a), n); got != 0 {
				t.Errorf("P2.1: Power of %x and %d is %x", a, n, got)
			}
		}
		// Great powers go round by 255, and those of 0 stay 0.
		for _, n := range []int{1 << 31, 1 << 32, 1<<40 + 7, math.MaxInt - 1, math.MaxInt} {
			want := gf.Power(byte(a), n%255+255)
			if got := gf.Power(byte(a), n); got != want {
				t.Errorf("P2.1: Power of %x and %d is %x, not %x", a, n, got, want)
			}
		}
	}
	if gf.Power(0, 1) != 0 || gf.Power(0, 255) != 0 || gf.Power(0, math.MaxInt) != 0 || gf.Power(2, 8) != 0x1b {
		t.Error("P2.1: the known powers")
	}
}

func TestInverses(t *testing.T) {
	for a := range 256 {
		if got := gf.Inverse(byte(a)); got != inverse(byte(a)) {
			t.Errorf("P2.1: Inverse of %x is %x", a, got)
		}
	}
	if gf.Inverse(0) != 0 || gf.Inverse(1) != 1 || gf.Inverse(2) != 141 {
		t.Error("P2.1: the known inverses")
	}
}

func TestBoxes(t *testing.T) {
	b := gf.Make()
	for a := range 256 {
		want := box(byte(a))
		if got := b.To(byte(a)); got != want {
			t.Errorf("P2.2: the box of %x is %x, not %x", a, got, want)
		}
		if got := b.Back(want); got != byte(a) {
			t.Errorf("P2.2: the box back of %x is %x, not %x", want, got, a)
		}
	}
	for a, want := range map[byte]byte{0: 99, 1: 124, 83: 237, 0x10: 0xca, 0x52: 0x00, 0xff: 0x16} {
		if b.To(a) != want || b.Back(want) != a {
			t.Errorf("P2.2: the box of %x is %x, not %x", a, b.To(a), want)
		}
	}
}

func TestBoxesOfNil(t *testing.T) {
	var none *gf.Boxes
	for a := range 256 {
		if none.To(byte(a)) != 0 || none.Back(byte(a)) != 0 {
			t.Fatalf("P2.2: boxes that are nil tell something of %x", a)
		}
	}
}

func TestBoxesAreNewEachTime(t *testing.T) {
	one, two := gf.Make(), gf.Make()
	if one == nil || one == two {
		t.Fatal("R4: Make hands out nothing new")
	}
	if *one != *two {
		t.Error("R5: Make makes two boxes that differ")
	}
	*one = gf.Boxes{}
	if two.To(0) != 99 || gf.Make().To(0) != 99 {
		t.Error("R4: boxes share what is theirs")
	}
}

func TestItIsAField(t *testing.T) {
	var times [256][256]byte
	for a := range 256 {
		for b := range 256 {
			times[a][b] = gf.Times(byte(a), byte(b))
		}
	}
	for a := range 256 {
		if times[a][1] != byte(a) || times[a][0] != 0 {
			t.Errorf("P2.3: %x times 1, or times 0", a)
		}
		if a != 0 && times[a][gf.Inverse(byte(a))] != 1 {
			t.Errorf("P2.3: %x times its inverse", a)
		}
		for b := range 256 {
			if times[a][b] != times[b][a] {
				t.Fatalf("P2.3: %x times %x, and the other way round", a, b)
			}
			for c := range 256 {
				if times[times[a][b]][c] != times[a][times[b][c]] || times[a][b^c] != times[a][b]^times[a][c] {
					t.Fatalf("P2.3: of %x, %x and %x", a, b, c)
				}
			}
		}
	}
}

func TestWhatFollowsOfBoxesAndPowers(t *testing.T) {
	b := gf.Make()
	for a := range 256 {
		if b.Back(b.To(byte(a))) != byte(a) || b.To(b.Back(byte(a))) != byte(a) {
			t.Errorf("P2.3: %x, there and back", a)
		}
		if a != 0 && gf.Power(byte(a), 255) != 1 {
			t.Errorf("P2.3: %x to the power of 255", a)
		}
	}
}
