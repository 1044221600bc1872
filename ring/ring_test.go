package ring_test

import (
	"bytes"
	"encoding/hex"
	"math"
	"math/big"
	"slices"
	"testing"
	"time"

	"wringer/ring"
)

// The tests reckon with polynomials as numbers of any length, and take the remainder only at the end.

// polynomial has these powers of x.
func polynomial(powers ...int) *big.Int {
	p := new(big.Int)
	for _, i := range powers {
		p.SetBit(p, i, 1)
	}
	return p
}

func lowestModulus() *big.Int { return polynomial(128, 127, 126, 121, 0) }

func highestModulus() *big.Int { return polynomial(128, 7, 2, 1, 0) }

// multiplied is a product without carries.
func multiplied(a, b *big.Int) *big.Int {
	out := new(big.Int)
	for i := range a.BitLen() {
		if a.Bit(i) == 1 {
			out.Xor(out, new(big.Int).Lsh(b, uint(i)))
		}
	}
	return out
}

// remainder is that of a division by a modulus.
func remainder(a, modulus *big.Int) *big.Int {
	out := new(big.Int).Set(a)
	for out.BitLen() >= modulus.BitLen() {
		out.Xor(out, new(big.Int).Lsh(modulus, uint(out.BitLen()-modulus.BitLen())))
	}
	return out
}

// fromLowest is an element's polynomial, by the lowest bit first, bit by bit as the chapter says.
func fromLowest(a [16]byte) *big.Int {
	p := new(big.Int)
	for i, b := range a {
		for j := range 8 {
			p.SetBit(p, 8*i+j, uint(b>>j&1))
		}
	}
	return p
}

// fromHighest is likewise by the highest bit first.
func fromHighest(a [16]byte) *big.Int {
	p := new(big.Int)
	for i, b := range a {
		for j := range 8 {
			p.SetBit(p, 8*(15-i)+j, uint(b>>j&1))
		}
	}
	return p
}

// toHighest is the element of a polynomial, by the highest bit first.
func toHighest(p *big.Int) [16]byte { return [16]byte(p.FillBytes(make([]byte, 16))) }

// toLowest is the element of a polynomial, by the lowest bit first.
func toLowest(p *big.Int) [16]byte {
	b := p.FillBytes(make([]byte, 16))
	slices.Reverse(b)
	return [16]byte(b)
}

func product(a, b [16]byte) [16]byte {
	return toLowest(remainder(multiplied(fromLowest(a), fromLowest(b)), lowestModulus()))
}

// overShift is the element whose product with x^128 is 1.
func overShift() *big.Int { return polynomial(127, 124, 121, 114, 0) }

func dot(a, b [16]byte) [16]byte {
	whole := multiplied(fromLowest(a), fromLowest(b))
	return toLowest(remainder(multiplied(whole, overShift()), lowestModulus()))
}

// times is a polynomial times an element, by the highest bit first.
func times(p *big.Int, a [16]byte) [16]byte {
	return toHighest(remainder(multiplied(p, fromHighest(a)), highestModulus()))
}

// power is x^n by the highest bit first, by the lowest bits of n first.
func power(n int) *big.Int {
	out, square := polynomial(0), polynomial(1)
	for ; n > 0; n /= 2 {
		if n%2 == 1 {
			out = remainder(multiplied(out, square), highestModulus())
		}
		square = remainder(multiplied(square, square), highestModulus())
	}
	return out
}

// varied is an element that hangs on a number.
func varied(seed uint32) [16]byte {
	var a [16]byte
	for i := range a {
		seed = seed*1664525 + 1013904223
		a[i] = byte(seed >> 24)
	}
	return a
}

func greatest() [16]byte { return [16]byte(bytes.Repeat([]byte{255}, 16)) }

// single has one bit.
func single(i int) [16]byte {
	var a [16]byte
	a[i/8] = 1 << (i % 8)
	return a
}

// elements are noughts, those that are 1 and x^128 in either field, the greatest one, some of single bits and digits, and any.
func elements() [][16]byte {
	return [][16]byte{
		{}, {1}, {15: 1}, {0: 1, 15: 194}, {15: 135}, greatest(),
		{2}, {15: 2}, {128}, {15: 128}, {240}, {15: 15}, {7: 128}, {8: 1},
		varied(1), varied(2), varied(3),
	}
}

func sum(a, b [16]byte) [16]byte {
	for i := range a {
		a[i] ^= b[i]
	}
	return a
}

func unhex(t *testing.T, text string) [16]byte {
	t.Helper()
	b, err := hex.DecodeString(text)
	if err != nil || len(b) != 16 {
		t.Fatalf("no element: %s", text)
	}
	return [16]byte(b)
}

// soon fails if something has no end.
func soon(t *testing.T, what string, do func()) {
	t.Helper()
	done := make(chan struct{})
	go func() {
		defer close(done)
		do()
	}()
	select {
	case <-done:
	case <-time.After(30 * time.Second):
		t.Fatalf("P10.2: %s does not end soon", what)
	}
}

func TestReckoningOfTheTests(t *testing.T) {
	if remainder(multiplied(overShift(), polynomial(128)), lowestModulus()).Cmp(polynomial(0)) != 0 {
		t.Fatal("the element whose product with x^128 is 1")
	}
}

// TestExamples are the chapter's; the first one is meant to stand also in RFC 8452.
func TestExamples(t *testing.T) {
	a, b := unhex(t, "66e94bd4ef8a2c3b884cfa59ca342b2e"), unhex(t, "ff000000000000000000000000000000")
	if got := ring.Times(a, b); got != unhex(t, "37856175e9dc9df26ebc6d6171aa0ae9") {
		t.Errorf("P10.1: Times of the first example: %x", got)
	}
	dotted := unhex(t, "ebe563401e7e91ea3ad6426b8140c394")
	if got := ring.Dot(a, b); got != dotted {
		t.Errorf("P10.1: Dot of the first example: %x", got)
	}
	if one, two := ring.Make(a).Dot(b), ring.Make(b).Dot(a); one != dotted || two != dotted {
		t.Errorf("P10.1: a table's Dot of the first example: %x, %x", one, two)
	}
	for _, a := range elements() {
		if got := ring.Times([16]byte{1}, a); got != a {
			t.Errorf("P10.1: Times of 1 and %x: %x", a, got)
		}
		if got := ring.Dot([16]byte{0: 1, 15: 194}, a); got != a {
			t.Errorf("P10.1: Dot of x^128 and %x: %x", a, got)
		}
	}
	if got := ring.Double([16]byte{128}); got != [16]byte{15: 135} {
		t.Errorf("P10.2: Double of the third example: %v", got)
	}
}

// check holds product and dots of two elements against what the tests reckon.
func check(t *testing.T, a, b [16]byte) {
	t.Helper()
	if got := ring.Times(a, b); got != product(a, b) {
		t.Fatalf("P10.1: Times of %x and %x: %x", a, b, got)
	}
	want := dot(a, b)
	if got := ring.Dot(a, b); got != want {
		t.Fatalf("P10.1: Dot of %x and %x: %x", a, b, got)
	}
	if got := ring.Make(a).Dot(b); got != want {
		t.Fatalf("P10.1: a table's Dot of %x and %x: %x", a, b, got)
	}
}

func TestProductsAndDots(t *testing.T) {
	for _, a := range elements() {
		for _, b := range elements() {
			check(t, a, b)
		}
	}
	for i := range uint32(200) {
		check(t, varied(2*i+100), varied(2*i+101))
	}
}

// TestProductsOfSingleBits with their sums (TestOrderAndSums) make up all products.
func TestProductsOfSingleBits(t *testing.T) {
	for i := range 128 {
		for j := range 128 {
			check(t, single(i), single(j))
		}
	}
}

func TestProductsWithNoughts(t *testing.T) {
	for _, a := range elements() {
		none := [16]byte{}
		if ring.Times(a, none) != none || ring.Dot(a, none) != none || ring.Make(a).Dot(none) != none || ring.Make(none).Dot(a) != none {
			t.Errorf("P10.1: %x and noughts", a)
		}
	}
}

func TestTableThatIsNil(t *testing.T) {
	var none *ring.Table
	for _, a := range elements() {
		if got := none.Dot(a); got != [16]byte{} {
			t.Errorf("P10.1: the dot of nil and %x: %x", a, got)
		}
	}
}

// TestTablesGoOn asks two tables in turn, and again, behind changes of what they were made of.
func TestTablesGoOn(t *testing.T) {
	h, other := varied(4), varied(5)
	one, two := ring.Make(h), ring.Make(other)
	clear(h[:])
	clear(other[:])
	for range 2 {
		for _, a := range elements() {
			if got := one.Dot(a); got != dot(varied(4), a) {
				t.Fatalf("R4, R5: the first of two tables, and %x: %x", a, got)
			}
			if got := two.Dot(a); got != dot(varied(5), a) {
				t.Fatalf("R4, R5: the second of two tables, and %x: %x", a, got)
			}
		}
	}
}

func TestArgumentsAreNotChanged(t *testing.T) {
	a, b := varied(6), varied(7)
	ring.Times(a, b)
	ring.Dot(a, b)
	ring.Make(a).Dot(b)
	ring.Double(a)
	ring.Multiple(5, a)
	ring.Raised(5, a)
	if a != varied(6) || b != varied(7) {
		t.Error("R4: an element was changed")
	}
}

func TestDouble(t *testing.T) {
	for i := range 128 {
		if got := ring.Double(single(i)); got != times(polynomial(1), single(i)) {
			t.Errorf("P10.2: Double of the bit %d: %x", i, got)
		}
	}
	for _, a := range elements() {
		if got := ring.Double(a); got != times(polynomial(1), a) {
			t.Errorf("P10.2: Double of %x: %x", a, got)
		}
	}
}

// TestPublishedDoubles are the subkeys of RFC 4493, of which each is the one ahead of it, doubled.
func TestPublishedDoubles(t *testing.T) {
	a := unhex(t, "7df76b0c1ab899b33e42f047b91b546f")
	first, second := unhex(t, "fbeed618357133667c85e08f7236a8de"), unhex(t, "f7ddac306ae266ccf90bc11ee46d513b")
	if got := ring.Double(a); got != first {
		t.Errorf("P10.2: Double of %x: %x", a, got)
	}
	if got := ring.Double(first); got != second {
		t.Errorf("P10.2: Double of %x: %x", first, got)
	}
	if ring.Multiple(4, a) != second || ring.Raised(2, a) != second {
		t.Error("P10.2: doubled twice")
	}
}

// multiples are numbers of no bit, of one, of all, and of any.
func multiples() []uint64 {
	all := []uint64{0, 1, 2, 3, 5, 7, 8, 255, 256, 1<<32 - 1, 1 << 32, 1<<63 - 1, 1 << 63, 1<<63 + 1, math.MaxUint64 - 1, math.MaxUint64, 0x9e3779b97f4a7c15, 0x123456789abcdef0}
	for i := range 64 {
		all = append(all, 1<<i)
	}
	return all
}

func TestMultiple(t *testing.T) {
	for _, a := range elements() {
		if ring.Multiple(0, a) != [16]byte{} || ring.Multiple(1, a) != a || ring.Multiple(2, a) != ring.Double(a) {
			t.Errorf("P10.2: 0, 1 and 2 times %x", a)
		}
		for _, n := range multiples() {
			if got := ring.Multiple(n, a); got != times(new(big.Int).SetUint64(n), a) {
				t.Errorf("P10.2: %d times %x: %x", n, a, got)
			}
		}
	}
	if got := ring.Multiple(math.MaxUint64, [16]byte{15: 1}); got != [16]byte{8: 255, 9: 255, 10: 255, 11: 255, 12: 255, 13: 255, 14: 255, 15: 255} {
		t.Errorf("P10.2: 2^64 - 1 times 1: %x", got)
	}
}

// TestRaisedStepByStep holds it against as many calls of Double.
func TestRaisedStepByStep(t *testing.T) {
	for _, a := range elements() {
		want := a
		for n := range 300 {
			if got := ring.Raised(n, a); got != want {
				t.Fatalf("P10.2: %x doubled %d times: %x", a, n, got)
			}
			want = ring.Double(want)
		}
	}
}

func TestRaisedAtItsEdges(t *testing.T) {
	one := [16]byte{15: 1}
	if ring.Raised(0, one) != one || ring.Raised(1, one) != [16]byte{15: 2} || ring.Raised(127, one) != [16]byte{128} || ring.Raised(128, one) != [16]byte{15: 135} {
		t.Error("P10.2: 1 doubled 0, 1, 127 and 128 times")
	}
	for _, a := range elements() {
		for _, n := range []int{-1, -2, -127, -128, math.MinInt32, math.MinInt + 1, math.MinInt} {
			soon(t, "Raised of a number below 0", func() {
				if got := ring.Raised(n, a); got != [16]byte{} {
					t.Errorf("P10.2: %x doubled %d times: %x", a, n, got)
				}
			})
		}
		for _, n := range []int{1000, 1 << 20, math.MaxInt32, math.MaxInt/2 + 1, math.MaxInt / 3, math.MaxInt - 1, math.MaxInt} {
			soon(t, "Raised of a great number", func() {
				if got := ring.Raised(n, a); got != times(power(n), a) {
					t.Errorf("P10.2: %x doubled %d times: %x", a, n, got)
				}
			})
		}
	}
}

func TestRaisedGoesOn(t *testing.T) {
	const half = math.MaxInt/2 + 1
	for _, a := range elements() {
		if ring.Double(ring.Raised(math.MaxInt-1, a)) != ring.Raised(math.MaxInt, a) {
			t.Errorf("P10.2: the last time that %x is doubled", a)
		}
		if ring.Raised(half, ring.Raised(half-1, a)) != ring.Raised(math.MaxInt, a) {
			t.Errorf("P10.2: %x doubled so often, and so often again", a)
		}
	}
}

func TestOrderAndSums(t *testing.T) {
	for _, a := range elements() {
		table := ring.Make(a)
		for _, b := range elements() {
			if ring.Times(a, b) != ring.Times(b, a) || ring.Dot(a, b) != ring.Dot(b, a) || table.Dot(b) != ring.Make(b).Dot(a) {
				t.Fatalf("P10.3: the order of %x and %x", a, b)
			}
			for _, c := range elements() {
				both := sum(b, c)
				if ring.Times(a, both) != sum(ring.Times(a, b), ring.Times(a, c)) || ring.Dot(a, both) != sum(ring.Dot(a, b), ring.Dot(a, c)) || table.Dot(both) != sum(table.Dot(b), table.Dot(c)) {
					t.Fatalf("P10.3: %x with the sum of %x and %x", a, b, c)
				}
				if ring.Times(a, ring.Times(b, c)) != ring.Times(ring.Times(a, b), c) || ring.Dot(a, ring.Dot(b, c)) != ring.Dot(ring.Dot(a, b), c) {
					t.Fatalf("P10.3: the order of %x, %x and %x", a, b, c)
				}
			}
		}
	}
}

// inverse is a to the 2^128 - 2, by the program's own products.
func inverse(a [16]byte) [16]byte {
	out := [16]byte{1}
	for range 127 {
		a = ring.Times(a, a)
		out = ring.Times(out, a)
	}
	return out
}

func TestProductTellsTheOtherElement(t *testing.T) {
	shift := [16]byte{0: 1, 15: 194}
	for _, a := range elements()[1:] {
		back := inverse(a)
		if ring.Times(a, back) != [16]byte{1} {
			t.Fatalf("P10.3: %x and its inverse %x", a, back)
		}
		for _, b := range elements() {
			if got := ring.Times(back, ring.Times(a, b)); got != b {
				t.Fatalf("P10.3: from the product of %x and %x came %x", a, b, got)
			}
			if got := ring.Times(back, ring.Times(shift, ring.Dot(a, b))); got != b {
				t.Fatalf("P10.3: from the dot of %x and %x came %x", a, b, got)
			}
		}
	}
}

func TestMultiplesPutTogether(t *testing.T) {
	for _, a := range elements() {
		for _, n := range multiples() {
			for _, m := range multiples() {
				if sum(ring.Multiple(n, a), ring.Multiple(m, a)) != ring.Multiple(n^m, a) {
					t.Fatalf("P10.3: %d and %d times %x", n, m, a)
				}
			}
		}
	}
}
