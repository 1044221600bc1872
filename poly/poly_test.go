package poly_test

import (
	"bytes"
	"encoding/hex"
	"math/big"
	"slices"
	"strings"
	"testing"

	"wringer/octet"
	"wringer/poly"
	"wringer/prime"
)

// modulus is 2^130 - 5.
func modulus() *big.Int {
	p := new(big.Int).Lsh(big.NewInt(1), 130)
	return p.Sub(p, big.NewInt(5))
}

// asNumber is the number in bytes, the lowest one first.
func asNumber(b []byte) *big.Int {
	turned := bytes.Clone(b)
	slices.Reverse(turned)
	return new(big.Int).SetBytes(turned)
}

// clamped goes by one mask for the whole number.
func clamped(key [16]byte) *big.Int {
	mask, _ := new(big.Int).SetString("0ffffffc0ffffffc0ffffffc0fffffff", 16)
	return mask.And(mask, asNumber(key[:]))
}

// valued reckons the polynomial from its powers: the last part counts the key once, the one ahead of it twice.
func valued(key [16]byte, b []byte) *big.Int {
	var numbers []*big.Int
	for part := range slices.Chunk(b, 16) {
		numbers = append(numbers, asNumber(append(bytes.Clone(part), 1)))
	}
	sum, p := new(big.Int), modulus()
	for i, n := range numbers {
		power := new(big.Int).Exp(clamped(key), big.NewInt(int64(len(numbers)-i)), p)
		sum.Add(sum, power.Mul(power, n))
	}
	return sum.Mod(sum, p)
}

// asNum is a value below 2^130 - 5 in five parts.
func asNum(value *big.Int) prime.Num {
	var n prime.Num
	for i := range n {
		part := new(big.Int).Rsh(value, uint(26*i))
		n[i] = uint32(part.Uint64() % (1 << 26))
	}
	return n
}

// lowest are a value's lowest 128 bits.
func lowest(value *big.Int) [16]byte {
	b := new(big.Int).Mod(value, new(big.Int).Lsh(big.NewInt(1), 128)).FillBytes(make([]byte, 16))
	slices.Reverse(b)
	return [16]byte(b)
}

// varied are n bytes that hang on a number.
func varied(seed uint32, n int) []byte {
	b := make([]byte, n)
	for i := range b {
		seed = seed*1664525 + 1013904223
		b[i] = byte(seed >> 24)
	}
	return b
}

func key(seed uint32) [16]byte { return [16]byte(varied(seed, 16)) }

func full() [16]byte { return [16]byte(bytes.Repeat([]byte{255}, 16)) }

// keys are of noughts, of 1 and 2, of the greatest bytes, of those that clamping takes away, and of any.
func keys() [][16]byte {
	return [][16]byte{{}, {1}, {2}, full(), {3: 0xf0, 4: 3, 7: 0xf0, 8: 3, 11: 0xf0, 12: 3, 15: 0xf0}, key(1), key(2)}
}

// lengths are of nothing, of one byte, and around whole parts.
var lengths = []int{0, 1, 2, 14, 15, 16, 17, 31, 32, 33, 47, 48, 49, 63, 64, 65, 127, 128, 129, 255, 256, 257, 1000}

func unhex(t *testing.T, text string) []byte {
	t.Helper()
	b, err := hex.DecodeString(strings.ReplaceAll(text, " ", ""))
	if err != nil {
		t.Fatal(err)
	}
	return b
}

// check holds a sum's value and tag, and the hash, against what the tests reckon.
func check(t *testing.T, what string, s *poly.Sum, k [16]byte, b []byte) {
	t.Helper()
	want := valued(k, b)
	if s.Value() != asNum(want) {
		t.Fatalf("P8.1: %s: the value of %x and %d bytes: %v", what, k, len(b), s.Value())
	}
	if s.Tag() != lowest(want) {
		t.Fatalf("P8.1: %s: the tag of %x and %d bytes: %x", what, k, len(b), s.Tag())
	}
	if got := poly.Hash(k, b); got != lowest(want) {
		t.Fatalf("P8.2: %s: the hash of %x and %d bytes: %x", what, k, len(b), got)
	}
}

func TestClamp(t *testing.T) {
	if got := poly.Clamp(full()); got != [16]byte{255, 255, 255, 15, 252, 255, 255, 15, 252, 255, 255, 15, 252, 255, 255, 15} {
		t.Errorf("P8.1: Clamp of bytes 255: %v", got)
	}
	if got := poly.Clamp([16]byte{}); got != [16]byte{} {
		t.Errorf("P8.1: Clamp of noughts: %v", got)
	}
	for i := range 128 {
		var k [16]byte
		k[i/8] = 1 << (i % 8)
		if got := poly.Clamp(k); asNumber(got[:]).Cmp(clamped(k)) != 0 {
			t.Errorf("P8.1: Clamp of the bit %d: %v", i, got)
		}
	}
	for _, k := range keys() {
		once := poly.Clamp(k)
		if asNumber(once[:]).Cmp(clamped(k)) != 0 || poly.Clamp(once) != once {
			t.Errorf("P8.1: Clamp of %x: %x", k, once)
		}
	}
}

func TestExamples(t *testing.T) {
	for _, k := range keys() {
		if poly.Hash(k, nil) != [16]byte{} || poly.Hash(k, []byte{}) != [16]byte{} {
			t.Errorf("P8.2, R3: the hash of %x and nothing", k)
		}
	}
	if got := poly.Hash([16]byte{1}, []byte{5, 7}); got != [16]byte{5, 7, 1} {
		t.Errorf("P8.2: the hash of 1 and 5 7: %v", got)
	}
	k := [16]byte(unhex(t, "85d6be7857556d337f4452fe42d506a8"))
	if got := poly.Hash(k, []byte("Cryptographic Forum Research Group")); hex.EncodeToString(got[:]) != "a7039d36354384c8776c94ffcab7318d" {
		t.Errorf("P8.2: the hash of the third example: %x", got)
	}
}

// TestPublishedTags are RFC 8439's section 2.5.2 and its appendix A.3, whose tags have a number added.
func TestPublishedTags(t *testing.T) {
	const (
		nought = "00000000000000000000000000000000"
		ones   = "ffffffffffffffffffffffffffffffff"
		two    = "02000000000000000000000000000000"
		one    = "01000000000000000000000000000000"
		four   = "01000000000000000400000000000000"
		first  = "e33594d7505e43b90000000000000000"
		second = "3394d7505e4379cd0100000000000000"
	)
	for _, c := range []struct{ key, added, bytes, tag string }{
		{"85d6be7857556d337f4452fe42d506a8", "0103808afb0db2fd4abff6af4149f51b", hex.EncodeToString([]byte("Cryptographic Forum Research Group")), "a8061dc1305136c6c22b8baf0c0127a9"},
		{nought, nought, strings.Repeat(nought, 4), nought},
		{two, nought, ones, "03000000000000000000000000000000"},
		{two, ones, two, "03000000000000000000000000000000"},
		{one, nought, ones + "f0ffffffffffffffffffffffffffffff" + "11000000000000000000000000000000", "05000000000000000000000000000000"},
		{one, nought, ones + "fbfefefefefefefefefefefefefefefe" + "01010101010101010101010101010101", nought},
		{two, nought, "fdffffffffffffffffffffffffffffff", "faffffffffffffffffffffffffffffff"},
		{four, nought, first + second + nought + one, "14000000000000005500000000000000"},
		{four, nought, first + second + nought, "13000000000000000000000000000000"},
	} {
		got := poly.Hash([16]byte(unhex(t, c.key)), unhex(t, c.bytes))
		tag := octet.Load(got[:]).Plus(octet.Load(unhex(t, c.added))).Bytes()
		if hex.EncodeToString(tag[:]) != c.tag {
			t.Errorf("P8.2: the tag of %s and %s: %x", c.key, c.bytes, tag)
		}
	}
}

func TestSumsOfManyLengths(t *testing.T) {
	for _, k := range keys() {
		for _, n := range lengths {
			for _, b := range [][]byte{varied(3, n), make([]byte, n), bytes.Repeat([]byte{255}, n)} {
				s := poly.New(k)
				s.Write(b)
				check(t, "written at once", s, k, b)
			}
		}
	}
}

func TestSumOfNoBytes(t *testing.T) {
	for _, k := range keys() {
		s := poly.New(k)
		for range 3 {
			if s == nil || s.Value() != (prime.Num{}) || s.Tag() != [16]byte{} {
				t.Fatalf("P8.1, R3: a sum of no bytes, with the key %x", k)
			}
			s.Write(nil)
			s.Write([]byte{})
		}
	}
}

// TestOnlyClampedBitsOfAKeyCount holds sums of keys that differ in what is clamped away against each other.
func TestOnlyClampedBitsOfAKeyCount(t *testing.T) {
	b := varied(4, 40)
	k := key(5)
	for i := range 128 {
		other := k
		other[i/8] ^= 1 << (i % 8)
		same := poly.Clamp(other) == poly.Clamp(k)
		if (poly.Hash(other, b) == poly.Hash(k, b)) != same {
			t.Errorf("P8.2: the bit %d of a key", i)
		}
	}
}

// TestValuesAtTheModulus takes the key's number 1, so that the value is the sum of the parts' numbers: 2^128 and what the part says, each.
func TestValuesAtTheModulus(t *testing.T) {
	top := func(first byte) []byte { return append([]byte{first}, bytes.Repeat([]byte{255}, 15)...) }
	for _, c := range []struct {
		last byte // the first byte of the third part
		want prime.Num
	}{
		{250 - 3, prime.Num{1<<26 - 9, 1<<26 - 1, 1<<26 - 1, 1<<26 - 1, 1<<26 - 1}},
		{250, prime.Num{1<<26 - 6, 1<<26 - 1, 1<<26 - 1, 1<<26 - 1, 1<<26 - 1}},
		{251, prime.Num{}},
		{252, prime.Num{1}},
		{255, prime.Num{4}},
	} {
		s := poly.New([16]byte{1})
		s.Write(make([]byte, 32))
		s.Write(top(c.last))
		// Three bits at 2^128 and the part make 2^130 - 1, if its first byte is 255.
		if s.Value() != c.want || s.Tag() != c.want.Low() {
			t.Errorf("P8.1: the value at 2^130 - %d: %v", 256-int(c.last), s.Value())
		}
	}
	whole := poly.New([16]byte{1})
	whole.Write(make([]byte, 16))
	if whole.Value() != (prime.Num{0, 0, 0, 0, 1 << 24}) || whole.Tag() != [16]byte{} {
		t.Errorf("P8.1: the value of a whole part of noughts: %v", whole.Value())
	}
}

func TestNoughtsCount(t *testing.T) {
	seen := map[[16]byte]int{}
	for n := range 100 {
		got := poly.Hash(key(6), make([]byte, n))
		if other, ok := seen[got]; ok {
			t.Errorf("P8.2: %d and %d noughts have one hash", n, other)
		}
		seen[got] = n
	}
}

func TestBytesWrittenInTwoParts(t *testing.T) {
	for _, n := range lengths {
		b := varied(7, n)
		want := poly.New(key(8))
		want.Write(b)
		check(t, "written at once", want, key(8), b)
		for cut := 0; cut <= n; cut++ {
			s := poly.New(key(8))
			s.Write(b[:cut])
			s.Write(b[cut:])
			if s.Value() != want.Value() || s.Tag() != want.Tag() {
				t.Fatalf("P8.3: %d bytes, %d of them first", n, cut)
			}
		}
	}
}

func TestBytesWrittenInManyParts(t *testing.T) {
	b := varied(9, 301)
	for _, size := range []int{1, 2, 3, 5, 7, 15, 16, 17, 31, 32, 33, 48, 100} {
		s := poly.New(full())
		for part := range slices.Chunk(b, size) {
			s.Write(part)
			s.Write(nil)
		}
		check(t, "written in many parts", s, full(), b)
	}
}

func TestValueAndTagEndNothing(t *testing.T) {
	for _, k := range keys() {
		b := varied(10, 130)
		s := poly.New(k)
		for n := range b {
			check(t, "in the midst", s, k, b[:n])
			check(t, "asked again", s, k, b[:n])
			s.Write(b[n : n+1])
		}
		check(t, "at the end", s, k, b)
	}
	for _, n := range []int{1, 15, 16, 17, 32} {
		s := poly.New(key(11))
		s.Write(varied(12, n))
		s.Value()
		s.Tag()
		s.Write(varied(13, n))
		check(t, "gone on behind value and tag", s, key(11), append(varied(12, n), varied(13, n)...))
	}
}

// TestValueGoesOnBehindWholeParts multiplies what was there by the key as often as there are parts more.
func TestValueGoesOnBehindWholeParts(t *testing.T) {
	for _, k := range keys() {
		for _, ahead := range []int{0, 16, 32, 80} {
			for _, more := range lengths {
				s, rest := poly.New(k), poly.New(k)
				s.Write(varied(14, ahead))
				want := s.Value()
				for range (more + 15) / 16 {
					want = want.Times(prime.Of(poly.Clamp(k), 0))
				}
				rest.Write(varied(15, more))
				s.Write(varied(15, more))
				if s.Value() != want.Plus(rest.Value()) {
					t.Fatalf("P8.3: %d bytes behind %d, with the key %x", more, ahead, k)
				}
			}
		}
	}
}

func TestSumThatIsNil(t *testing.T) {
	var s *poly.Sum
	for _, b := range [][]byte{nil, {}, {1}, varied(16, 16), varied(16, 100)} {
		s.Write(b)
		if s.Value() != (prime.Num{}) || s.Tag() != [16]byte{} {
			t.Errorf("P8.1: a sum that is nil, behind %d bytes: %v, %x", len(b), s.Value(), s.Tag())
		}
	}
}

// TestSumThatNobodyMade only asks that it does not panic, and is as one with a key of noughts.
func TestSumThatNobodyMade(t *testing.T) {
	var s poly.Sum
	s.Write(varied(17, 40))
	if s.Value() != (prime.Num{}) || s.Tag() != [16]byte{} {
		t.Errorf("R1: a sum that nobody made: %v", s.Value())
	}
}

func TestKeysAndBytesAreNeitherChangedNorKept(t *testing.T) {
	for _, n := range []int{0, 1, 15, 16, 17, 32, 40} {
		// With room to spare behind the end.
		k, b := key(18), varied(19, 100)
		s := poly.New(k)
		s.Write(b[:n])
		s.Value()
		s.Tag()
		poly.Hash(k, b[:n])
		poly.Clamp(k)
		if k != key(18) || !bytes.Equal(b, varied(19, 100)) {
			t.Fatalf("R4: a key, or %d bytes, or what is behind them, were changed", n)
		}
		clear(b)
		clear(k[:])
		check(t, "R4: what was handed in is cleared", s, key(18), varied(19, n))
	}
}

func TestSumsShareNothing(t *testing.T) {
	one, two := poly.New(key(20)), poly.New(key(20))
	one.Write(varied(21, 20))
	two.Write(varied(22, 21))
	one.Write(varied(23, 20))
	check(t, "R4, R5: the first of two sums", one, key(20), append(varied(21, 20), varied(23, 20)...))
	check(t, "R4, R5: the second of two sums", two, key(20), varied(22, 21))
}
