package ezkey_test

import (
	"bytes"
	"encoding/hex"
	"math"
	"math/big"
	"testing"
	"time"

	"wringer/api"
	"wringer/ezkey"
	"wringer/gf"
	"wringer/turn"
)

// The tests reckon rounds byte by byte, and elements as polynomials of any length; they take tables from layer 3 only to hand them in.

// product is one of the field of 256 elements, whose remainder is taken at the end.
func product(a, b byte) byte {
	var whole uint16
	for i := range 8 {
		whole ^= uint16(a) << i * uint16(b>>i&1)
	}
	for i := 14; i >= 8; i-- {
		whole ^= 0x11b << (i - 8) * (whole >> i & 1)
	}
	return byte(whole)
}

var boxes = func() [256]byte {
	var out [256]byte
	for a := range 256 {
		inverse := 0
		for b := range 256 {
			if product(byte(a), byte(b)) == 1 {
				inverse = b
			}
		}
		for i := range 8 {
			bit := inverse>>i ^ inverse>>((i+4)%8) ^ inverse>>((i+5)%8) ^ inverse>>((i+6)%8) ^ inverse>>((i+7)%8)
			out[a] |= byte(bit&1) << i
		}
		out[a] ^= 0x63
	}
	return out
}()

// round is a block behind a round, as chapter 3 says it.
func round(b, key [16]byte) [16]byte {
	var out [16]byte
	for c := range 4 {
		var a [4]byte
		for r := range 4 {
			a[r] = boxes[b[4*((c+r)%4)+r]]
		}
		for r := range 4 {
			out[4*c+r] = product(2, a[r]) ^ product(3, a[(r+1)%4]) ^ a[(r+2)%4] ^ a[(r+3)%4]
		}
	}
	return plus(out, key)
}

func plus(blocks ...[16]byte) [16]byte {
	var out [16]byte
	for _, b := range blocks {
		for i := range out {
			out[i] ^= b[i]
		}
	}
	return out
}

// times is an element multiplied by a polynomial, by the highest bit first.
func times(p *big.Int, a [16]byte) [16]byte {
	return [16]byte(remainder(multiplied(p, new(big.Int).SetBytes(a[:]))).FillBytes(make([]byte, 16)))
}

func multiplied(a, b *big.Int) *big.Int {
	out := new(big.Int)
	for i := range a.BitLen() {
		if a.Bit(i) == 1 {
			out.Xor(out, new(big.Int).Lsh(b, uint(i)))
		}
	}
	return out
}

// remainder is that of a division by x^128 + x^7 + x^2 + x + 1.
func remainder(a *big.Int) *big.Int {
	modulus := new(big.Int).Add(new(big.Int).Lsh(big.NewInt(1), 128), big.NewInt(135))
	out := new(big.Int).Set(a)
	for out.BitLen() > 128 {
		out.Xor(out, new(big.Int).Lsh(modulus, uint(out.BitLen()-129)))
	}
	return out
}

// power is x^n.
func power(n *big.Int) *big.Int {
	out := big.NewInt(1)
	for i := n.BitLen() - 1; i >= 0; i-- {
		out = remainder(multiplied(out, out))
		if n.Bit(i) == 1 {
			out = remainder(new(big.Int).Lsh(out, 1))
		}
	}
	return out
}

// parts are a key's, here of 48 bytes.
type parts struct{ i, j, l [16]byte }

func partsOf(key []byte) parts {
	return parts{[16]byte(key[:16]), [16]byte(key[16:32]), [16]byte(key[32:48])}
}

// offset and e are as the chapter says them, of numbers that may be.
func (p parts) offset(j, i int) [16]byte {
	// i + 7, divided by 8, is what i is divided by 8, rounded up.
	doublings := new(big.Int).Add(big.NewInt(int64(i)), big.NewInt(7))
	doublings.Rsh(doublings, 3)
	return plus(times(big.NewInt(int64(j)), p.j), times(power(doublings), p.i), times(big.NewInt(int64(i%8)), p.l))
}

func (p parts) e(j, i int, x [16]byte) [16]byte {
	if j == -1 {
		x = plus(x, times(big.NewInt(int64(i)), p.l))
		for _, key := range [][16]byte{p.i, p.j, p.l, p.i, p.j, p.l, p.i, p.j, p.l, p.i} {
			x = round(x, key)
		}
		return x
	}
	x = plus(x, p.offset(j, i))
	for _, key := range [][16]byte{p.j, p.i, p.l, {}} {
		x = round(x, key)
	}
	return x
}

// varied are n bytes that hang on a number.
func varied(seed uint32, n int) []byte {
	b := make([]byte, n)
	for i := range b {
		seed = seed*1664525 + 1013904223
		b[i] = byte(seed >> 24)
	}
	return b
}

// rising are 0 1 2 .. , n bytes.
func rising(n int) []byte {
	b := make([]byte, n)
	for i := range b {
		b[i] = byte(i)
	}
	return b
}

func tables() *turn.Tables { return turn.New(gf.Make()) }

func keysOf(t *testing.T, key []byte) *ezkey.Keys {
	t.Helper()
	k, e := ezkey.Extract(tables(), key)
	if k == nil || e != api.OK {
		t.Fatalf("P15.1: Extract of %d bytes: error %d", len(key), e)
	}
	return k
}

func told(k *ezkey.Keys) string {
	i, j, l := k.Part(0), k.Part(1), k.Part(2)
	return hex.EncodeToString(i[:]) + hex.EncodeToString(j[:]) + hex.EncodeToString(l[:])
}

// many are numbers around all that the chapter names, and great ones.
var many = []int{
	0, 1, 2, 3, 4, 5, 6, 7, 8, 9, 10, 15, 16, 17, 23, 24, 25, 63, 64, 65, 127, 128, 129, 1000, 1016, 1017, 1023, 1024, 1025, 4096, 65535, 65536,
	math.MaxInt32, math.MaxInt32 + 1, 1 << 32, 1<<32 + 1, 1<<32 + 8, 1<<53 + 1, 1 << 62, 1<<62 + 5,
	math.MaxInt - 15, math.MaxInt - 8, math.MaxInt - 7, math.MaxInt - 6, math.MaxInt - 1, math.MaxInt,
}

// below are numbers that are too low everywhere.
var below = []int{-2, -3, -8, -9, -1 << 32, -1<<32 - 1, math.MinInt + 1, math.MinInt}

func TestKeysThatThereAreNot(t *testing.T) {
	x := tables()
	for _, n := range []int{0, 129, 130, 176, 256, 257, 304, 1000, 65536 + 48} {
		if k, e := ezkey.Extract(x, make([]byte, n)); k != nil || e != api.ErrKey {
			t.Errorf("P15.1, R2: Extract of %d bytes: error %d", n, e)
		}
	}
	if k, e := ezkey.Extract(x, nil); k != nil || e != api.ErrKey {
		t.Errorf("P15.1, R3: Extract of nil: error %d", e)
	}
	// The spare room behind a key's end is none of it.
	if k, e := ezkey.Extract(x, make([]byte, 0, 48)); k != nil || e != api.ErrKey {
		t.Errorf("P15.1: Extract of no bytes, with room for 48: error %d", e)
	}
}

func TestTablesThatAreNil(t *testing.T) {
	for _, n := range []int{0, 1, 47, 48, 49, 128, 129, 1000} {
		if k, e := ezkey.Extract(nil, make([]byte, n)); k != nil || e != api.ErrTable {
			t.Errorf("P15.1, R2: Extract without tables, of %d bytes: error %d", n, e)
		}
	}
	if k, e := ezkey.Extract(nil, nil); k != nil || e != api.ErrTable {
		t.Errorf("P15.1, R2: Extract without tables, of nil: error %d", e)
	}
}

func TestKeysThatAreNil(t *testing.T) {
	var k *ezkey.Keys
	var none [16]byte
	for _, n := range append(append([]int{-1}, below...), many...) {
		if k.Part(n) != none {
			t.Errorf("P15.1: Part of nil, of %d", n)
		}
		for _, j := range []int{math.MinInt, -2, -1, 0, 1, 3, math.MaxInt} {
			if k.Offset(j, n) != none || k.Offset(n, j) != none {
				t.Errorf("P15.2: Offset of nil, of %d and %d", j, n)
			}
			if k.E(j, n, [16]byte{1, 2}) != none || k.E(n, j, [16]byte{1, 2}) != none {
				t.Errorf("P15.2: E of nil, of %d and %d", j, n)
			}
		}
	}
}

// TestKnownParts holds parts against BLAKE2b sums by CPython's hashlib (digest_size=48), of the keys 0 1 2 .. .
func TestKnownParts(t *testing.T) {
	for n, want := range map[int]string{
		1:   "cc01088536f784f0bb769e41c4957b6d0cde1fcc8cf1d91fc477d4dd6e3fbfcd43d1698d146f348b2c36a339682bec3f",
		47:  "a01de48a297da53fb1bbc9c43efacb7f4fa47d95265a8211451f6d18b97d56cc19962abed9d275034c0da48adda002c7",
		48:  "000102030405060708090a0b0c0d0e0f101112131415161718191a1b1c1d1e1f202122232425262728292a2b2c2d2e2f",
		49:  "5544a73dcdb9e814896e78793d6e149c407bd334cd802193fa8dc3459a4a776713f45c8df3ad59b8f5005930aaaccb7b",
		64:  "11c8e1a6ad99f75bd0b8df1530549c6bf2e72d64e6703535ad06512417b0f335dfe07e63ccb8c5cf99d76ee1f653f609",
		127: "0c046dce7c3ed50a4be7eca79fdeb9d821ebe28f5d82acadac3d7449e6892789313679018034a2ce6b42f006c02f19ee",
		128: "a2c2acf7ce4079c02b7f38e2ef33bff531a31a7c7effe712c5348b4d616c0cba9b152679317984ec632d0c70eb11eece",
	} {
		if got := told(keysOf(t, rising(n))); got != want {
			t.Errorf("P15.1: the parts of %d bytes are %s", n, got)
		}
		// With room to spare behind the end, which counts nowhere.
		if got := told(keysOf(t, rising(200)[:n])); got != want {
			t.Errorf("P15.1: the parts of %d bytes, with more behind them, are %s", n, got)
		}
	}
}

// TestKeysOfAllLengths tells that each length has its own parts, though all are noughts.
func TestKeysOfAllLengths(t *testing.T) {
	seen := map[string]int{}
	for n := 1; n <= 128; n++ {
		parts := told(keysOf(t, make([]byte, n)))
		if at, is := seen[parts]; is {
			t.Errorf("P15.1: the parts of %d and of %d noughts are the same", at, n)
		}
		seen[parts] = n
	}
	if seen[told(keysOf(t, make([]byte, 48)))] != 48 || told(keysOf(t, make([]byte, 48))) != hex.EncodeToString(make([]byte, 48)) {
		t.Error("P15.1: the parts of 48 noughts are not noughts")
	}
}

func TestParts(t *testing.T) {
	key := varied(1, 48)
	k, want := keysOf(t, key), partsOf(key)
	if k.Part(0) != want.i || k.Part(1) != want.j || k.Part(2) != want.l {
		t.Errorf("P15.1: the parts are %s, not %x", told(k), key)
	}
	for _, n := range append(append([]int{-1, 1<<33 + 2}, below...), many...) {
		if n != 0 && n != 1 && n != 2 && k.Part(n) != [16]byte{} {
			t.Errorf("P15.1: Part of %d is %x", n, k.Part(n))
		}
	}
}

func TestExample(t *testing.T) {
	k := keysOf(t, make([]byte, 48))
	var none, want [16]byte
	for range 4 {
		want = round(want, none)
	}
	if k.Part(0) != none || k.Offset(5, 7) != none || k.E(0, 0, none) != want {
		t.Errorf("P15.1, P15.2: %x, %x, %x", k.Part(0), k.Offset(5, 7), k.E(0, 0, none))
	}
}

// TestPlainOffsets is reckoned by hand: I, J and L are 2^8, 2^16 and 1, as polynomials.
func TestPlainOffsets(t *testing.T) {
	key := make([]byte, 48)
	key[14], key[16+13], key[32+15] = 1, 1, 1
	k := keysOf(t, key)
	for _, c := range []struct {
		j, i int
		want [16]byte
	}{
		{0, 0, [16]byte{14: 1}},
		{0, 1, [16]byte{14: 2, 15: 1}},
		{0, 7, [16]byte{14: 2, 15: 7}},
		{0, 8, [16]byte{14: 2}},
		{0, 9, [16]byte{14: 4, 15: 1}},
		{0, 16, [16]byte{14: 4}},
		{0, 17, [16]byte{14: 8, 15: 1}},
		{1, 0, [16]byte{13: 1, 14: 1}},
		{5, 15, [16]byte{13: 5, 14: 4, 15: 7}},
		{256, 8, [16]byte{12: 1, 14: 2}},
		{1 << 62, 0, [16]byte{6: 64, 14: 1}},
		{math.MaxInt, 0, [16]byte{6: 127, 7: 255, 8: 255, 9: 255, 10: 255, 11: 255, 12: 255, 13: 255, 14: 1}},
		// 2^120 doubled, so that 2^128 is 135.
		{0, 8 * 119, [16]byte{0: 128}},
		{0, 8 * 120, [16]byte{15: 135}},
	} {
		if got := k.Offset(c.j, c.i); got != c.want {
			t.Errorf("P15.2: Offset of %d and %d: %x, not %x", c.j, c.i, got, c.want)
		}
	}
}

func TestOffsets(t *testing.T) {
	for _, key := range [][]byte{varied(2, 48), bytes.Repeat([]byte{255}, 48)} {
		k, want := keysOf(t, key), partsOf(key)
		for _, j := range many {
			for _, i := range many {
				if got := k.Offset(j, i); got != want.offset(j, i) {
					t.Errorf("P15.2: Offset of %d and %d: %x", j, i, got)
				}
			}
		}
		for i := range 300 {
			if got := k.Offset(i/100, i); got != want.offset(i/100, i) {
				t.Errorf("P15.2: Offset of %d and %d: %x", i/100, i, got)
			}
		}
	}
}

func TestNumbersThatAreTooLow(t *testing.T) {
	k := keysOf(t, varied(3, 48))
	x := [16]byte{1, 2, 3}
	var none [16]byte
	for _, low := range append([]int{-1}, below...) {
		for _, other := range append(append([]int{-1}, below...), many...) {
			if k.Offset(low, other) != none || k.Offset(other, low) != none {
				t.Errorf("P15.2: Offset of %d and %d", low, other)
			}
			if k.E(other, low, x) != none {
				t.Errorf("P15.2: E of %d and %d", other, low)
			}
			if low != -1 && k.E(low, other, x) != none {
				t.Errorf("P15.2: E of %d and %d", low, other)
			}
		}
	}
}

func TestE(t *testing.T) {
	for seed, key := range [][]byte{varied(4, 48), bytes.Repeat([]byte{255}, 48), make([]byte, 48)} {
		k, want := keysOf(t, key), partsOf(key)
		for _, j := range append([]int{-1}, many...) {
			for _, i := range many {
				x := [16]byte(varied(uint32(seed)+uint32(i), 16))
				if got := k.E(j, i, x); got != want.e(j, i, x) {
					t.Errorf("P15.2: E of %d, %d and %x: %x", j, i, x, got)
				}
			}
		}
	}
	// By a key whose parts are a sum's.
	k := keysOf(t, rising(49))
	sum, _ := hex.DecodeString("5544a73dcdb9e814896e78793d6e149c407bd334cd802193fa8dc3459a4a776713f45c8df3ad59b8f5005930aaaccb7b")
	for j := -1; j < 20; j++ {
		for i := range 40 {
			if got := k.E(j, i, [16]byte{15: 1}); got != partsOf(sum).e(j, i, [16]byte{15: 1}) {
				t.Errorf("P15.2: E of %d and %d, by a key of 49 bytes: %x", j, i, got)
			}
		}
	}
}

// TestKnownBlocks holds E, of 0 1 .. 15 by the key 0 1 .. 47, against a program in another language that was written for it from the chapters.
func TestKnownBlocks(t *testing.T) {
	k := keysOf(t, rising(48))
	for _, c := range []struct {
		j, i int
		want string
	}{
		{-1, 0, "47a7ffbf8bad5928e79e765bca2b0f85"},
		{-1, 3, "622b52150c6cbfcc6b8c2572fca2b6db"},
		{-1, 9, "2b6d456747944bd1b0b6fa4d8b112e35"},
		{-1, 9223372036854775807, "1cf0af04cc6402b52223c43dfce1e466"},
		{0, 0, "bb8b49aa16f2b3e843bad08cc394a082"},
		{0, 7, "562bd32f0437c671efd97b726f1e0bbf"},
		{0, 8, "d28e740702ab74449fe56a3af30e71d8"},
		{0, 9, "877f855b46cbf73c0c4ddee2908e374c"},
		{3, 1, "5e8016102cc862aea97bf52cb282dd30"},
		{5, 1000, "0647eeb09565b9ae66c1d1d8bc67d353"},
		{9223372036854775807, 9223372036854775807, "dd6a6277a87b121fa31327d457ac8cf3"},
	} {
		if got := k.E(c.j, c.i, [16]byte(rising(16))); hex.EncodeToString(got[:]) != c.want {
			t.Errorf("P15.2: E of %d and %d: %x, not %s", c.j, c.i, got, c.want)
		}
	}
}

// TestEndsSoon asks so often that whoever goes step by step, even to 2^31, is late.
func TestEndsSoon(t *testing.T) {
	k := keysOf(t, varied(5, 48))
	begun := time.Now()
	for range 50 {
		for _, n := range []int{math.MaxInt, math.MinInt, 1 << 62, math.MaxInt32, -1, -2} {
			k.Offset(n, n)
			k.E(n, n, [16]byte{})
			k.E(-1, n, [16]byte{})
			k.Part(n)
		}
	}
	if took := time.Since(begun); took > 20*time.Second {
		t.Errorf("P15.2, R1: it took %v", took)
	}
}

// TestNoTwoBlocksComeToOne turns back what E tells.
func TestNoTwoBlocksComeToOne(t *testing.T) {
	x := tables()
	key := varied(6, 48)
	k, p := keysOf(t, key), partsOf(key)
	long := [][16]byte{p.i, p.l, p.j, p.i, p.l, p.j, p.i, p.l, p.j, p.i}
	short := [][16]byte{{}, p.l, p.i, p.j}
	for _, j := range []int{-1, 0, 1, 2, 3, math.MaxInt} {
		for _, i := range []int{0, 1, 7, 8, 9, math.MaxInt} {
			mask, keys := p.offset(max(j, 0), i), short
			if j == -1 {
				mask, keys = times(big.NewInt(int64(i)), p.l), long
			}
			seen := map[[16]byte]bool{}
			for n := range 200 {
				b := [16]byte(varied(uint32(n), 16))
				if n >= 72 {
					// A bit of noughts, after the other.
					b = [16]byte{}
					b[(n-72)/8] = 1 << (n % 8)
				}
				out := k.E(j, i, b)
				seen[out] = true
				for _, key := range keys {
					out = x.Unround(out, key)
				}
				if plus(out, mask) != b {
					t.Fatalf("P15.3: E of %d, %d and %x is not turned back", j, i, b)
				}
			}
			if len(seen) != 200 {
				t.Errorf("P15.3: of %d and %d 200 blocks come to %d", j, i, len(seen))
			}
		}
	}
}

func TestWhatIsHandedInIsNeitherChangedNorKept(t *testing.T) {
	for _, n := range []int{1, 47, 48, 49, 127, 128} {
		// With room to spare behind the end.
		key := varied(7, 200)
		k := keysOf(t, key[:n])
		if !bytes.Equal(key, varied(7, 200)) {
			t.Errorf("R4: a key of %d bytes, or what is behind it, was changed", n)
		}
		parts, block := told(k), k.E(3, 5, [16]byte{1})
		clear(key)
		if told(k) != parts || k.E(3, 5, [16]byte{1}) != block {
			t.Errorf("R4: a key of %d bytes was kept", n)
		}
		if !bytes.Equal(key, make([]byte, 200)) {
			t.Errorf("R4: a key of %d bytes was changed later", n)
		}
	}
}

func TestAnswersHangOnArgumentsAlone(t *testing.T) {
	first, second := varied(8, 48), varied(9, 48)
	x := tables()
	one, _ := ezkey.Extract(x, first)
	two, _ := ezkey.Extract(x, second)
	b := [16]byte{9, 8, 7}
	for range 2 {
		for j := -1; j < 4; j++ {
			for i := range 12 {
				if one.E(j, i, b) != partsOf(first).e(j, i, b) || two.E(j, i, b) != partsOf(second).e(j, i, b) {
					t.Errorf("R5: E of %d and %d, by two keys one after the other", j, i)
				}
			}
		}
	}
	if told(one) != hex.EncodeToString(first) || told(two) != hex.EncodeToString(second) {
		t.Error("R5: two keys have not each its own parts")
	}
}
