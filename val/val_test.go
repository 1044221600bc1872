package val_test

import (
	"bytes"
	"encoding/hex"
	"math"
	"math/big"
	"slices"
	"strings"
	"testing"

	"wringer/ring"
	"wringer/val"
)

// The tests reckon with polynomials as numbers of any length: a value is a sum of blocks times powers, not one dot after the other.

// polynomial has these powers of x.
func polynomial(powers ...int) *big.Int {
	p := new(big.Int)
	for _, i := range powers {
		p.SetBit(p, i, 1)
	}
	return p
}

// multiplied is a product without carries, modulo x^128 + x^127 + x^126 + x^121 + 1.
func multiplied(a, b *big.Int) *big.Int {
	out := new(big.Int)
	for i := range a.BitLen() {
		if a.Bit(i) == 1 {
			out.Xor(out, new(big.Int).Lsh(b, uint(i)))
		}
	}
	modulus := polynomial(128, 127, 126, 121, 0)
	for out.BitLen() > 128 {
		out.Xor(out, new(big.Int).Lsh(modulus, uint(out.BitLen()-129)))
	}
	return out
}

// asNumber is the number in bytes, the lowest one first, whose bits are an element's coefficients.
func asNumber(b []byte) *big.Int {
	turned := bytes.Clone(b)
	slices.Reverse(turned)
	return new(big.Int).SetBytes(turned)
}

func asBlock(n *big.Int) [16]byte {
	b := n.FillBytes(make([]byte, 16))
	slices.Reverse(b)
	return [16]byte(b)
}

// valued reckons from powers of h divided by x^128: the last block counts it once, the one ahead of it twice.
func valued(h [16]byte, b []byte) [16]byte {
	factor := multiplied(asNumber(h[:]), polynomial(127, 124, 121, 114, 0))
	sum, power := new(big.Int), polynomial(0)
	blocks := slices.Collect(slices.Chunk(b, 16))
	for _, block := range slices.Backward(blocks) {
		power = multiplied(power, factor)
		sum.Xor(sum, multiplied(power, asNumber(block)))
	}
	return asBlock(sum)
}

// behind puts noughts behind to whole blocks.
func behind(b []byte) []byte {
	out := bytes.Clone(b)
	for len(out)%16 != 0 {
		out = append(out, 0)
	}
	return out
}

// lengthBlock reckons 16 n and 2 or 3 more as a number of any length.
func lengthBlock(n int, whole bool) [16]byte {
	number := new(big.Int).Mul(big.NewInt(16), big.NewInt(int64(n)))
	if whole {
		return asBlock(number.Add(number, big.NewInt(2)))
	}
	return asBlock(number.Add(number, big.NewInt(3)))
}

// row is that of a tweak and a message, as the chapter says it.
func row(tweak, m []byte) []byte {
	whole := len(m)%16 == 0
	length := lengthBlock(len(tweak), whole)
	out := append(length[:], behind(tweak)...)
	if whole {
		return append(out, m...)
	}
	return behind(append(append(out, m...), 1))
}

// split reads a row back.
func split(t *testing.T, row []byte) (tweak, m []byte) {
	t.Helper()
	if len(row) < 16 || len(row)%16 != 0 {
		t.Fatalf("P11.2: no row: %x", row)
	}
	length := asNumber(row[:16]).Int64()
	at := 16 + int(length/16)
	tweak = row[16:at]
	m = row[(at+15)/16*16:]
	if length%16 == 3 {
		m = bytes.TrimRight(m, "\x00")
		m = m[:len(m)-1]
	}
	return tweak, m
}

// varied are n bytes that hang on a number.
func varied(seed uint32, n int) []byte {
	b := make([]byte, n)
	for i := range b {
		seed = seed*1664525 + 1013904223
		b[i] = byte(seed >> 24)
	}
	return b
}

func element(seed uint32) [16]byte { return [16]byte(varied(seed, 16)) }

func greatest() [16]byte { return [16]byte(bytes.Repeat([]byte{255}, 16)) }

// elements are noughts, 1, x^128 (whose dot changes nothing), the greatest one, and any.
func elements() [][16]byte {
	return [][16]byte{{}, {1}, {0: 1, 15: 194}, {15: 128}, greatest(), element(1), element(2)}
}

// lengths are of nothing, of one byte, and around whole blocks.
var lengths = []int{0, 1, 2, 14, 15, 16, 17, 18, 31, 32, 33, 47, 48, 49, 63, 64, 65, 255, 256, 257}

// contents are n noughts, n of the greatest bytes, and n of any.
func contents(seed uint32, n int) [][]byte {
	return [][]byte{make([]byte, n), bytes.Repeat([]byte{255}, n), varied(seed, n)}
}

func xor(a, b []byte) []byte {
	out := bytes.Clone(a)
	for i := range out {
		out[i] ^= b[i]
	}
	return out
}

func xorBlock(a, b [16]byte) [16]byte { return [16]byte(xor(a[:], b[:])) }

func unhex(t *testing.T, text string) []byte {
	t.Helper()
	b, err := hex.DecodeString(strings.ReplaceAll(text, " ", ""))
	if err != nil {
		t.Fatal(err)
	}
	return b
}

// written is the value of a state that is written part by part.
func written(h [16]byte, parts ...[]byte) [16]byte {
	s := val.New(h)
	for _, part := range parts {
		s.Write(part)
	}
	return s.Value()
}

func TestReckoningOfTheTests(t *testing.T) {
	if multiplied(polynomial(127, 124, 121, 114, 0), polynomial(128)).Cmp(polynomial(0)) != 0 {
		t.Fatal("the element whose product with x^128 is 1")
	}
}

// TestExamples are the chapter's; the first one stands also in RFC 8452.
func TestExamples(t *testing.T) {
	h := [16]byte(unhex(t, "25629347589242761d31f826ba4b757b"))
	b := unhex(t, "4f4f95668c83dfb6401762bb2d01a262 d1a24ddd2721d006bbe45f20d3c9f362")
	if got := val.Sum(h, b); got != [16]byte(unhex(t, "f7a3b47b846119fae5b7866cf5e5b77e")) {
		t.Errorf("P11.1: Sum of the first example: %x", got)
	}
	if got := val.Encode(nil, nil); !bytes.Equal(got, append([]byte{2}, make([]byte, 15)...)) {
		t.Errorf("P11.2: Encode of nothing: %v", got)
	}
	if got := val.Encode(nil, []byte{7}); !bytes.Equal(got, unhex(t, "03000000000000000000000000000000 07010000000000000000000000000000")) {
		t.Errorf("P11.2: Encode of no tweak and 7: %v", got)
	}
}

// TestPublishedValues are of appendix C of RFC 8452, held against the copy of them in the tests of another program, Tink.
func TestPublishedValues(t *testing.T) {
	h := [16]byte(unhex(t, "d9b360279694941ac5dbc6987ada7377"))
	for _, c := range []struct{ bytes, value string }{
		{"00000000000000000000000000000000", "00000000000000000000000000000000"},
		{"01000000000000000000000000000000 00000000000000004000000000000000", "eb93b7740962c5e49d2a90a7dc5cec74"},
		{"01000000000000000000000000000000 00000000000000006000000000000000", "48eb6c6c5a2dbe4a1dde508fee06361b"},
		{"01000000000000000000000000000000 00000000000000008000000000000000", "20806c26e3c1de019e111255708031d6"},
		{"01000000000000000000000000000000 02000000000000000000000000000000 00000000000000000001000000000000", "ce6edc9a50b36d9a98986bbf6a261c3b"},
	} {
		if got := val.Sum(h, unhex(t, c.bytes)); got != [16]byte(unhex(t, c.value)) {
			t.Errorf("P11.1: Sum of %s: %x", c.bytes, got)
		}
	}
}

func TestValuesOfManyLengths(t *testing.T) {
	for _, h := range elements() {
		for _, n := range lengths {
			for _, b := range contents(3, n) {
				want := valued(h, b)
				if got := val.Sum(h, b); got != want {
					t.Fatalf("P11.1: Sum of %x and %x: %x", h, b, got)
				}
				if got := written(h, b); got != want {
					t.Fatalf("P11.1: the value of %x and %x: %x", h, b, got)
				}
				if val.Sum(h, behind(b)) != want || written(h, behind(b)) != want {
					t.Fatalf("P11.1: %d bytes and noughts behind them", n)
				}
			}
		}
	}
}

func TestValuesOfNothing(t *testing.T) {
	for _, h := range elements() {
		s := val.New(h)
		for range 3 {
			if s == nil || s.Value() != [16]byte{} || val.Sum(h, nil) != [16]byte{} || val.Sum(h, []byte{}) != [16]byte{} {
				t.Fatalf("P11.1, R3: the value of %x and no blocks", h)
			}
			s.Write(nil)
			s.Write([]byte{})
		}
		s.Write(varied(4, 20))
		s.Write(nil)
		s.Write([]byte{})
		if s.Value() != valued(h, varied(4, 20)) {
			t.Errorf("P11.1, R3: no bytes were written behind blocks, and counted")
		}
	}
}

// TestEachWriteFillsItsLastBlock writes twice: what comes behind begins a block of its own.
func TestEachWriteFillsItsLastBlock(t *testing.T) {
	for _, h := range elements() {
		for _, n := range lengths {
			for _, m := range lengths {
				first, second := varied(5, n), varied(6, m)
				want := valued(h, append(behind(first), second...))
				if got := written(h, first, second); got != want {
					t.Fatalf("P11.1: %d bytes behind %d, with %x: %x", m, n, h, got)
				}
			}
		}
	}
	if written(element(7), []byte{1}, []byte{2}) == written(element(7), []byte{1, 2}) {
		t.Error("P11.1: two bytes that were written one by one stand in one block")
	}
}

func TestNoughtsCountAsBlocks(t *testing.T) {
	if written(element(8), []byte{1}, make([]byte, 16)) != ring.Dot(element(8), written(element(8), []byte{1})) {
		t.Error("P11.1: a block of noughts")
	}
	if written(element(8), []byte{1}, []byte{0}) != ring.Dot(element(8), written(element(8), []byte{1})) {
		t.Error("P11.1: one nought, and noughts behind it")
	}
	if written(element(8), make([]byte, 40)) != [16]byte{} {
		t.Error("P11.1: noughts alone")
	}
}

func TestValueInTheMidst(t *testing.T) {
	for _, h := range elements() {
		s := val.New(h)
		var all []byte
		for i, n := range lengths {
			part := varied(uint32(9+i), n)
			s.Write(part)
			all = append(all, behind(part)...)
			for range 2 {
				if got := s.Value(); got != valued(h, all) {
					t.Fatalf("P11.1: the value of %x in the midst, behind %d bytes: %x", h, len(all), got)
				}
			}
		}
	}
}

func TestStateThatIsNil(t *testing.T) {
	var s *val.State
	for _, n := range lengths {
		s.Write(varied(10, n))
		if got := s.Value(); got != [16]byte{} {
			t.Errorf("P11.1: a state that is nil, behind %d bytes: %x", n, got)
		}
	}
}

// TestStateThatNobodyMade only asks that it does not panic, and is as one of noughts.
func TestStateThatNobodyMade(t *testing.T) {
	var s val.State
	s.Write(varied(11, 40))
	if got := s.Value(); got != [16]byte{} {
		t.Errorf("R1: a state that nobody made: %x", got)
	}
}

func TestLength(t *testing.T) {
	for _, n := range []int{-1, -2, -16, math.MinInt32, math.MinInt + 1, math.MinInt} {
		for _, whole := range []bool{false, true} {
			if got := val.Length(n, whole); got != [16]byte{} {
				t.Errorf("P11.2: Length of %d: %v", n, got)
			}
		}
	}
	for _, n := range []int{0, 1, 2, 15, 16, 17, 255, 256, 4095, 4096, 1<<28 - 1, 1 << 28, math.MaxInt32, math.MaxInt >> 4, math.MaxInt>>4 + 1, math.MaxInt >> 3, math.MaxInt>>3 + 1, math.MaxInt/2 + 1, math.MaxInt - 1, math.MaxInt} {
		for _, whole := range []bool{false, true} {
			if got := val.Length(n, whole); got != lengthBlock(n, whole) {
				t.Errorf("P11.2: Length of %d, %v: %v", n, whole, got)
			}
		}
	}
	if val.Length(0, true) != [16]byte{2} || val.Length(0, false) != [16]byte{3} || val.Length(16, false) != [16]byte{3, 1} {
		t.Error("P11.2: Length of 0 and 16")
	}
}

func TestRowsAndHashes(t *testing.T) {
	for _, n := range lengths {
		for _, m := range lengths {
			for i, tweak := range contents(12, n) {
				message := contents(13, m)[i]
				want := row(tweak, message)
				if got := val.Encode(tweak, message); !bytes.Equal(got, want) {
					t.Fatalf("P11.2: Encode of a tweak of %d bytes and a message of %d: %x", n, m, got)
				}
				if got := val.Hash(element(14), tweak, message); got != valued(element(14), want) {
					t.Fatalf("P11.2: Hash of a tweak of %d bytes and a message of %d: %x", n, m, got)
				}
			}
		}
	}
}

func TestHashesOfManyElements(t *testing.T) {
	for _, h := range elements() {
		for _, n := range []int{0, 1, 16, 17, 32} {
			for _, m := range []int{0, 15, 16, 17, 100} {
				tweak, message := varied(15, n), varied(16, m)
				if got := val.Hash(h, tweak, message); got != valued(h, row(tweak, message)) {
					t.Fatalf("P11.2: Hash of %x, a tweak of %d bytes and a message of %d: %x", h, n, m, got)
				}
			}
		}
	}
}

func TestEmptyIsNil(t *testing.T) {
	none := []byte{}
	for _, b := range [][]byte{nil, {7}, varied(17, 16)} {
		if !bytes.Equal(val.Encode(none, b), val.Encode(nil, b)) || val.Hash(element(18), none, b) != val.Hash(element(18), nil, b) {
			t.Errorf("R3: an empty tweak, and %d bytes", len(b))
		}
		if !bytes.Equal(val.Encode(b, none), val.Encode(b, nil)) || val.Hash(element(18), b, none) != val.Hash(element(18), b, nil) {
			t.Errorf("R3: an empty message, and %d bytes", len(b))
		}
	}
}

// likeEndings are rows of n bytes that a mark or noughts behind another one could be taken for.
func likeEndings(n int) [][]byte {
	all := [][]byte{make([]byte, n)}
	for i := max(0, n-17); i < n; i++ {
		marked := make([]byte, n)
		marked[i] = 1
		all = append(all, marked)
	}
	return append(all, varied(19, n))
}

// TestRowsTellTweakAndMessage reads each row back, so that no two pairs have one.
func TestRowsTellTweakAndMessage(t *testing.T) {
	for n := range 35 {
		for m := range 35 {
			for _, tweak := range likeEndings(n) {
				for _, message := range likeEndings(m) {
					gotTweak, gotMessage := split(t, val.Encode(tweak, message))
					if !bytes.Equal(gotTweak, tweak) || !bytes.Equal(gotMessage, message) {
						t.Fatalf("P11.3: the row of %x and %x", tweak, message)
					}
				}
			}
		}
	}
}

func TestHashesDiffer(t *testing.T) {
	seen := map[[16]byte]string{}
	for n := range 20 {
		for m := range 35 {
			for _, message := range likeEndings(m) {
				tweak := make([]byte, n)
				pair := hex.EncodeToString(tweak) + " and " + hex.EncodeToString(message)
				got := val.Hash(element(20), tweak, message)
				if other, ok := seen[got]; ok && other != pair {
					t.Fatalf("P11.3: one hash of %s, and of %s", pair, other)
				}
				seen[got] = pair
			}
		}
	}
}

func TestValuesGoOverSums(t *testing.T) {
	for _, h := range elements() {
		for _, n := range lengths {
			a, b := varied(21, n), varied(22, n)
			if val.Sum(h, xor(a, b)) != xorBlock(val.Sum(h, a), val.Sum(h, b)) {
				t.Fatalf("P11.3: the value of a sum of %d bytes, with %x", n, h)
			}
		}
	}
}

// TestValueGoesOn takes the dot of what was there as often as there are blocks more.
func TestValueGoesOn(t *testing.T) {
	for _, h := range elements() {
		for _, n := range lengths {
			for _, m := range lengths {
				first, second := behind(varied(23, n)), varied(24, m)
				want := val.Sum(h, first)
				for range (m + 15) / 16 {
					want = ring.Dot(h, want)
				}
				want = xorBlock(want, val.Sum(h, second))
				if written(h, first, second) != want || val.Sum(h, append(first, second...)) != want {
					t.Fatalf("P11.3: %d bytes behind %d, with %x", m, n, h)
				}
			}
		}
	}
}

func TestBytesAreNeitherChangedNorKept(t *testing.T) {
	for _, n := range lengths {
		// With room to spare behind the end.
		h, b, tweak := element(25), varied(26, 300), varied(27, 300)
		s := val.New(h)
		s.Write(b[:n])
		val.Sum(h, b[:n])
		encoded := val.Encode(tweak[:n], b[:n])
		val.Hash(h, tweak[:n], b[:n])
		if h != element(25) || !bytes.Equal(b, varied(26, 300)) || !bytes.Equal(tweak, varied(27, 300)) {
			t.Fatalf("R4: an element, or %d bytes, or what is behind them, were changed", n)
		}
		clear(b)
		clear(tweak)
		clear(h[:])
		if s.Value() != valued(element(25), varied(26, n)) {
			t.Fatalf("R4: a state kept %d bytes", n)
		}
		s.Write([]byte{9})
		if s.Value() != valued(element(25), append(behind(varied(26, n)), 9)) {
			t.Fatalf("R4: a state kept its element, or %d bytes", n)
		}
		if !bytes.Equal(encoded, row(varied(27, n), varied(26, n))) {
			t.Fatalf("R4: a row of %d bytes is what was handed in", n)
		}
	}
}

func TestRowsAreNew(t *testing.T) {
	for _, n := range lengths {
		tweak, m := varied(28, n), varied(29, n)
		clear(val.Encode(tweak, m))
		if !bytes.Equal(tweak, varied(28, n)) || !bytes.Equal(m, varied(29, n)) {
			t.Fatalf("R4: whoever clears a row clears %d bytes that were handed in", n)
		}
		if !bytes.Equal(val.Encode(tweak, m), row(tweak, m)) {
			t.Fatalf("R4: whoever clears a row clears the next one of %d bytes", n)
		}
	}
}

func TestStatesShareNothing(t *testing.T) {
	one, two := val.New(element(30)), val.New(element(30))
	one.Write(varied(31, 20))
	two.Write(varied(32, 21))
	one.Write(varied(33, 20))
	if one.Value() != valued(element(30), append(behind(varied(31, 20)), varied(33, 20)...)) {
		t.Error("R4, R5: the first of two states")
	}
	if two.Value() != valued(element(30), varied(32, 21)) {
		t.Error("R4, R5: the second of two states")
	}
}
