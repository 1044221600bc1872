package blake_test

import (
	"bytes"
	"encoding/binary"
	"encoding/hex"
	"math"
	"strings"
	"testing"

	"wringer/api"
	"wringer/blake"
	"wringer/octet"
)

// firsts are the chapter's first numbers.
var firsts = [8]uint64{
	0x6a09e667f3bcc908, 0xbb67ae8584caa73b, 0x3c6ef372fe94f82b, 0xa54ff53a5f1d36f1,
	0x510e527fade682d1, 0x9b05688c2b3e6c1f, 0x1f83d9abfb41bd6b, 0x5be0cd19137e2179,
}

// lines are the places of the numbers that are stirred, as the chapter lists them.
var lines = [8][4]int{
	{0, 4, 8, 12}, {1, 5, 9, 13}, {2, 6, 10, 14}, {3, 7, 11, 15},
	{0, 5, 10, 15}, {1, 6, 11, 12}, {2, 7, 8, 13}, {3, 4, 9, 14},
}

// orders are the chapter's rows, a figure of base 16 for each number.
var orders = [10]string{
	"0123456789abcdef", "ea489fd61c02b753", "b8c052fdae367194", "7931dcbe265a40f8", "905724afe1bc683d",
	"2c6a0b834d75fe19", "c51fed4a0763928b", "db7ec13950f4862a", "6fe9b308c2d714a5", "a2847615fb9e3cd0",
}

// places are a row's numbers.
func places(row string) []int {
	var all []int
	for _, r := range row {
		all = append(all, strings.IndexRune("0123456789abcdef", r))
	}
	return all
}

func turned(n uint64, by int) uint64 { return n>>by | n<<(64-by) }

// stir changes the numbers at four places.
func stir(v *[16]uint64, at [4]int, x, y uint64) {
	a, b, c, d := &v[at[0]], &v[at[1]], &v[at[2]], &v[at[3]]
	*a += *b + x
	*d = turned(*d^*a, 32)
	*c += *d
	*b = turned(*b^*c, 24)
	*a += *b + y
	*d = turned(*d^*a, 16)
	*c += *d
	*b = turned(*b^*c, 63)
}

func compressed(h [8]uint64, block []byte, low, high uint64, last bool) [8]uint64 {
	var v [16]uint64
	copy(v[:8], h[:])
	copy(v[8:], firsts[:])
	v[12] ^= low
	v[13] ^= high
	if last {
		v[14] ^= math.MaxUint64
	}
	for round := range 12 {
		row := places(orders[round%10])
		for i, at := range lines {
			stir(&v, at, binary.LittleEndian.Uint64(block[8*row[2*i]:]), binary.LittleEndian.Uint64(block[8*row[2*i+1]:]))
		}
	}
	for i := range h {
		h[i] ^= v[i] ^ v[i+8]
	}
	return h
}

// summed lays all blocks ahead of compressing the first one.
func summed(size int, key, b []byte) []byte {
	var all []byte
	if len(key) > 0 {
		all = append(bytes.Clone(key), make([]byte, 128-len(key))...)
	}
	all = append(all, b...)
	counts := len(all)
	for len(all) == 0 || len(all)%128 != 0 {
		all = append(all, 0)
	}
	h := firsts
	h[0] ^= 0x01010000 ^ uint64(256*len(key)) ^ uint64(size)
	for at := 0; at < len(all); at += 128 {
		last := at+128 == len(all)
		count := at + 128
		if last {
			count = counts
		}
		h = compressed(h, all[at:at+128], uint64(count), 0, last)
	}
	var out []byte
	for _, n := range h {
		out = binary.LittleEndian.AppendUint64(out, n)
	}
	return out[:size]
}

// varied are n bytes that hang on a number.
func varied(seed uint32, n int) []byte {
	b := make([]byte, n)
	for i := range b {
		seed = seed*1664525 + 1013904223
		b[i] = byte(seed >> 24)
	}
	return b
}

// counted are n bytes that count from 0 on, and begin again at 251.
func counted(n int) []byte {
	b := make([]byte, n)
	for i := range b {
		b[i] = byte(i % 251)
	}
	return b
}

func sum(t *testing.T, size int, key, b []byte) []byte {
	t.Helper()
	s, e := blake.Sum(size, key, b)
	if e != api.OK || len(s) != size {
		t.Fatalf("P6.1: Sum of size %d, a key of %d bytes and %d bytes: %x, %d", size, len(key), len(b), s, e)
	}
	return s
}

func made(t *testing.T, size int, key []byte) *blake.Hash {
	t.Helper()
	h, e := blake.New(size, key)
	if h == nil || e != api.OK {
		t.Fatalf("P6.1: New of size %d and a key of %d bytes: %d", size, len(key), e)
	}
	return h
}

// edges are lengths of nothing, of one byte, and around whole blocks.
var edges = []int{0, 1, 2, 63, 64, 65, 127, 128, 129, 191, 255, 256, 257, 383, 384, 385, 500, 1023, 1024, 1025}

// TestKnownSums holds "abc", nothing and keys of 64 bytes against published sums, and the others against what another program, CPython's hashlib, answers.
func TestKnownSums(t *testing.T) {
	for _, c := range []struct {
		size, key int
		b         []byte
		want      string
	}{
		{64, 0, []byte("abc"), "ba80a53f981c4d0d6a2797b69f12f6e94c212f14685ac4b74b12bb6fdbffa2d17d87c5392aab792dc252d5de4533cc9518d38aa8dbf1925ab92386edd4009923"},
		{64, 0, nil, "786a02f742015903c6c6fd852552d272912f4740e15847618a86e217f71f5419d25e1031afee585313896444934eb04b903a685b1448b755d56f701afe9be2ce"},
		{64, 64, nil, "10ebb67700b1868efb4417987acf4690ae9d972fb7a590c2f02871799aaa4786b5e996e8f0f4eb981fc214b005f42d2ff4233499391653df7aefcbc13fc51568"},
		{64, 64, counted(1), "961f6dd1e4dd30f63901690c512e78e4b45e4742ed197c3c5e45c549fd25f2e4187b0bc9fe30492b16b0d0bc4ef9b0f34c7003fac09a5ef1532e69430234cebd"},
		{64, 0, counted(127), "b6292669ccd38d5f01caae96ba272c76a879a45743afa0725d83b9ebb26665b731f1848c52f11972b6644f554c064fa90780dbbbf3a89d4fc31f67df3e5857ef"},
		{64, 0, counted(128), "2319e3789c47e2daa5fe807f61bec2a1a6537fa03f19ff32e87eecbfd64b7e0e8ccff439ac333b040f19b0c4ddd11a61e24ac1fe0f10a039806c5dcc0da3d115"},
		{64, 0, counted(129), "f59711d44a031d5f97a9413c065d1e614c417ede998590325f49bad2fd444d3e4418be19aec4e11449ac1a57207898bc57d76a1bcf3566292c20c683a5c4648f"},
		{64, 64, counted(255), "8e1e2c579262b7c01966c3133c2bb704a165be2308ff8925a2f070dec7275740fa9fe004ee25c8e1a3dd57317065ee744f0821c4e911eee8e484e770f21dd958"},
		{32, 1, counted(256), "f0d1aa68539b15f737d46a01371cef796e5be0b18a307ecafe280df2284a6a03"},
		{48, 63, counted(257), "c8ea0fafef22b213caf5615b8dfadfc8033ec9950ff177519c04715746de75426a30ae53240adb9922e3ce5b90a63069"},
		{20, 64, counted(1000), "63c649f635ecae0b81d38d13e7c726aabfa75db3"},
		{63, 32, counted(384), "af67f94e227ee673b877fc108ed855ac2c33200ea75fbb19352fba5402848664aa44f6c30b2608a3da2302960aa4c0ec2cba517d3a75b8d2428d16b1ed3b22"},
		{1, 0, nil, "2e"},
		{1, 0, counted(255), "77"},
		{1, 64, counted(128), "ed"},
	} {
		if got := sum(t, c.size, counted(c.key), c.b); hex.EncodeToString(got) != c.want {
			t.Errorf("P6.1: the sum of %d, a key of %d bytes and %d bytes: %x", c.size, c.key, len(c.b), got)
		}
	}
}

// TestSumOfSums is RFC 7693's appendix E: sums of many sizes, with and without keys, and the sum of them all.
func TestSumOfSums(t *testing.T) {
	sequence := func(n int) []byte {
		a, b := 0xdead4bad*uint32(n), uint32(1)
		out := make([]byte, n)
		for i := range out {
			a, b = b, a+b
			out[i] = byte(b >> 24)
		}
		return out
	}
	all := made(t, 32, nil)
	for _, size := range []int{20, 32, 48, 64} {
		for _, n := range []int{0, 3, 128, 129, 255, 1024} {
			all.Write(sum(t, size, nil, sequence(n)))
			all.Write(sum(t, size, sequence(size), sequence(n)))
		}
	}
	if got := hex.EncodeToString(all.Sum()); got != "c23a7800d98123bd10f506c61e29da5603d763b8bbad2e737f5e765a7bccd475" {
		t.Errorf("P6.1: the sum of sums: %s", got)
	}
}

// TestPublishedCompression is RFC 7693's appendix A.
func TestPublishedCompression(t *testing.T) {
	h := firsts
	h[0] ^= 0x01010040
	got := blake.Compress(h, [128]byte{'a', 'b', 'c'}, octet.Wide{Lo: 3}, true)
	if got != [8]uint64{
		0x0d4d1c983fa580ba, 0xe9f6129fb697276a, 0xb7c45a68142f214c, 0xd1a2ffdb6fbb124b,
		0x2d79ab2a39c5877d, 0x95cc3345ded552c2, 0x5a92f1dba88ad318, 0x239900d4ed8623b9,
	} {
		t.Errorf("P6.1: Compress: %x", got)
	}
}

func TestCompressionOfMany(t *testing.T) {
	counts := []uint64{0, 1, 128, 1 << 32, 1 << 63, math.MaxUint64}
	for seed := range uint32(20) {
		var h [8]uint64
		for i := range h {
			h[i] = binary.LittleEndian.Uint64(varied(seed+uint32(i)*7919, 8))
		}
		block := [128]byte(varied(seed+1000, 128))
		seen := map[[8]uint64]bool{}
		for _, low := range counts {
			for _, high := range counts {
				for _, last := range []bool{false, true} {
					got := blake.Compress(h, block, octet.Wide{Lo: low, Hi: high}, last)
					if got != compressed(h, block[:], low, high, last) {
						t.Errorf("P6.1: %x, compressed with %x, %x %x, %t: %x", h, block, low, high, last, got)
					}
					if seen[got] {
						t.Errorf("P6.1: the count %x %x, or the last block, was not seen", low, high)
					}
					seen[got] = true
				}
			}
		}
	}
}

func TestCompressionOfEdges(t *testing.T) {
	full := [128]byte(bytes.Repeat([]byte{255}, 128))
	var most [8]uint64
	for i := range most {
		most[i] = math.MaxUint64
	}
	for _, h := range [][8]uint64{{}, most, firsts} {
		for _, block := range [][128]byte{{}, full} {
			for _, last := range []bool{false, true} {
				if got := blake.Compress(h, block, octet.Wide{}, last); got != compressed(h, block[:], 0, 0, last) {
					t.Errorf("P6.1, R6: %x, compressed with bytes %d: %x", h, block[0], got)
				}
			}
		}
	}
}

func TestCompressionHangsOnEveryByte(t *testing.T) {
	block := [128]byte(varied(3, 128))
	seen := map[[8]uint64]bool{blake.Compress(firsts, block, octet.Wide{Lo: 128}, false): true}
	for i := range block {
		other := block
		other[i] ^= 1
		got := blake.Compress(firsts, other, octet.Wide{Lo: 128}, false)
		if seen[got] || got != compressed(firsts, other[:], 128, 0, false) {
			t.Errorf("P6.1: the byte at %d of a block", i)
		}
		seen[got] = true
	}
	for i := range firsts {
		other := firsts
		other[i] ^= 1 << 63
		if got := blake.Compress(other, block, octet.Wide{Lo: 128}, false); seen[got] {
			t.Errorf("P6.1: the number at %d", i)
		}
	}
}

func TestSumsOfAllSizes(t *testing.T) {
	b := varied(5, 200)
	seen := map[string]bool{}
	for size := 1; size <= 64; size++ {
		got := sum(t, size, nil, b)
		if !bytes.Equal(got, summed(size, nil, b)) {
			t.Errorf("P6.1: the sum of size %d: %x", size, got)
		}
		if size >= 8 {
			if seen[string(got[:8])] {
				t.Errorf("P6.1: the sum of size %d begins as another one", size)
			}
			seen[string(got[:8])] = true
		}
		if h := made(t, size, varied(6, 10)); !bytes.Equal(h.Sum(), summed(size, varied(6, 10), nil)) {
			t.Errorf("P6.2: the sum of size %d of a key alone", size)
		}
	}
}

func TestSumsOfAllKeys(t *testing.T) {
	for n := range 65 {
		key := varied(7, n)
		for _, many := range []int{0, 1, 127, 128, 129, 300} {
			b := varied(8, many)
			if got := sum(t, 64, key, b); !bytes.Equal(got, summed(64, key, b)) {
				t.Errorf("P6.1: the sum of a key of %d bytes and %d bytes: %x", n, many, got)
			}
		}
	}
}

func TestKeysAreNoBytesThatAreSummed(t *testing.T) {
	seen := map[string]int{}
	for n := range 65 {
		// Keys of noughts alone, which only their lengths tell apart.
		got := string(sum(t, 32, make([]byte, n), nil))
		if other, ok := seen[got]; ok {
			t.Errorf("P6.1: keys of %d and %d noughts have one sum", n, other)
		}
		seen[got] = n
	}
	whole := make([]byte, 128)
	copy(whole, varied(9, 64))
	if bytes.Equal(sum(t, 32, varied(9, 64), nil), sum(t, 32, nil, whole)) {
		t.Error("P6.1: a key's sum is that of its block")
	}
}

func TestSumsOfManyLengths(t *testing.T) {
	for _, n := range edges {
		b := varied(10, n)
		for _, key := range [][]byte{nil, varied(11, 1), varied(11, 64)} {
			for _, size := range []int{1, 16, 64} {
				if got := sum(t, size, key, b); !bytes.Equal(got, summed(size, key, b)) {
					t.Errorf("P6.1: the sum of %d, a key of %d bytes and %d bytes: %x", size, len(key), n, got)
				}
			}
		}
	}
}

func TestNoughtsCount(t *testing.T) {
	seen := map[string]int{}
	for n := range 400 {
		got := string(sum(t, 32, nil, make([]byte, n)))
		if other, ok := seen[got]; ok {
			t.Errorf("P6.1: %d and %d noughts have one sum", n, other)
		}
		seen[got] = n
	}
}

func TestSizesThatThereAreNot(t *testing.T) {
	for _, size := range []int{math.MinInt, -1 << 32, -64, -1, 0, 65, 66, 128, 256, 256 + 32, 1<<32 + 32, math.MaxInt} {
		for _, n := range []int{0, 1, 64, 65, 200} {
			if h, e := blake.New(size, make([]byte, n)); h != nil || e != api.ErrSize {
				t.Errorf("P6.1, R2: New of size %d and a key of %d bytes: %d", size, n, e)
			}
			if s, e := blake.Sum(size, make([]byte, n), []byte("abc")); len(s) != 0 || e != api.ErrSize {
				t.Errorf("P6.1, R2: Sum of size %d and a key of %d bytes: %x, %d", size, n, s, e)
			}
		}
	}
}

func TestKeysThatThereAreNot(t *testing.T) {
	for _, size := range []int{1, 32, 64} {
		for _, n := range []int{65, 66, 127, 128, 129, 256, 320, 65536 + 1} {
			if h, e := blake.New(size, make([]byte, n)); h != nil || e != api.ErrKey {
				t.Errorf("P6.1, R2: New of size %d and a key of %d bytes: %d", size, n, e)
			}
			if s, e := blake.Sum(size, make([]byte, n), []byte("abc")); len(s) != 0 || e != api.ErrKey {
				t.Errorf("P6.1, R2: Sum of size %d and a key of %d bytes: %x, %d", size, n, s, e)
			}
		}
	}
}

func TestNothingIsNilOrEmpty(t *testing.T) {
	want := summed(64, nil, nil)
	for _, nothing := range [][]byte{nil, {}, make([]byte, 0, 128)} {
		h := made(t, 64, nothing)
		if !bytes.Equal(h.Sum(), want) {
			t.Error("P6.2, R3: the sum of nothing written")
		}
		h.Write(nothing)
		h.Write(nil)
		if !bytes.Equal(h.Sum(), want) || !bytes.Equal(sum(t, 64, nothing, nothing), want) {
			t.Error("P6.2, R3: the sum of nothing, written")
		}
	}
}

func TestBytesWrittenInTwoParts(t *testing.T) {
	for _, key := range [][]byte{nil, varied(12, 1), varied(12, 64)} {
		for _, n := range edges {
			b := varied(13, n)
			want := summed(40, key, b)
			for cut := 0; cut <= n; cut++ {
				h := made(t, 40, key)
				h.Write(b[:cut])
				h.Write(b[cut:])
				if !bytes.Equal(h.Sum(), want) {
					t.Fatalf("P6.3: %d bytes, %d of them first, with a key of %d bytes", n, cut, len(key))
				}
			}
		}
	}
}

func TestBytesWrittenInManyParts(t *testing.T) {
	for _, key := range [][]byte{nil, varied(14, 33)} {
		for _, part := range []int{1, 2, 3, 63, 64, 65, 127, 128, 129, 256, 300} {
			b := varied(15, 1025)
			h := made(t, 64, key)
			for at := 0; at < len(b); at += part {
				h.Write(b[at:min(at+part, len(b))])
				h.Write(nil)
			}
			if !bytes.Equal(h.Sum(), summed(64, key, b)) {
				t.Errorf("P6.3: parts of %d bytes, with a key of %d bytes", part, len(key))
			}
		}
	}
}

func TestSumEndsNothing(t *testing.T) {
	for _, key := range [][]byte{nil, varied(16, 64)} {
		h := made(t, 64, key)
		b := varied(17, 400)
		for n := range b {
			want := summed(64, key, b[:n])
			if !bytes.Equal(h.Sum(), want) || !bytes.Equal(h.Sum(), want) {
				t.Fatalf("P6.2: the sum behind %d bytes, with a key of %d bytes", n, len(key))
			}
			h.Write(b[n : n+1])
		}
		if !bytes.Equal(h.Sum(), summed(64, key, b)) {
			t.Errorf("P6.2: the sum at the end, with a key of %d bytes", len(key))
		}
	}
}

func TestSumAheadOfWholeBlocks(t *testing.T) {
	for _, n := range []int{127, 128, 129, 256} {
		h := made(t, 64, nil)
		h.Write(varied(18, n))
		h.Sum()
		h.Write(varied(19, n))
		if want := summed(64, nil, append(varied(18, n), varied(19, n)...)); !bytes.Equal(h.Sum(), want) {
			t.Errorf("P6.2: %d bytes, the sum, and %d more", n, n)
		}
	}
}

func TestHashThatIsNil(t *testing.T) {
	var h *blake.Hash
	for _, b := range [][]byte{nil, {}, {1}, varied(20, 300)} {
		h.Write(b)
		if s := h.Sum(); len(s) != 0 {
			t.Errorf("P6.2: a hash that is nil has the sum %x", s)
		}
	}
}

// TestHashThatNobodyMade only asks that it does not panic, and has no sum.
func TestHashThatNobodyMade(t *testing.T) {
	var h blake.Hash
	h.Write(varied(20, 300))
	if s := h.Sum(); len(s) != 0 {
		t.Errorf("R1: a hash of no size has the sum %x", s)
	}
}

func TestKeysAndBytesAreNeitherChangedNorKept(t *testing.T) {
	for _, n := range []int{0, 1, 127, 128, 129, 256, 300} {
		// With room to spare behind the ends.
		key, b := varied(21, 200), varied(22, 500)
		h := made(t, 64, key[:64])
		h.Write(b[:n])
		s := h.Sum()
		clear(s[:cap(s)])
		whole := sum(t, 64, key[:64], b[:n])
		if !bytes.Equal(key, varied(21, 200)) || !bytes.Equal(b, varied(22, 500)) {
			t.Errorf("R4: a key, or %d bytes, or what is behind them, were changed", n)
		}
		clear(key)
		clear(b)
		want := summed(64, varied(21, 64), varied(22, n))
		if !bytes.Equal(h.Sum(), want) || !bytes.Equal(whole, want) {
			t.Errorf("R4: a key, or %d bytes, or the sum that was handed out, were kept", n)
		}
	}
}

func TestKeysAreNotKeptAheadOfWriting(t *testing.T) {
	key := varied(23, 64)
	h := made(t, 64, key)
	clear(key)
	if !bytes.Equal(h.Sum(), summed(64, varied(23, 64), nil)) {
		t.Error("R4: a key was kept")
	}
}

func TestHashesShareNothing(t *testing.T) {
	key := varied(24, 20)
	one, two := made(t, 64, key), made(t, 64, key)
	one.Write(varied(25, 130))
	two.Write(varied(26, 130))
	one.Write(varied(27, 130))
	if !bytes.Equal(one.Sum(), summed(64, key, append(varied(25, 130), varied(27, 130)...))) || !bytes.Equal(two.Sum(), summed(64, key, varied(26, 130))) {
		t.Error("R4, R5: two hashes change each other")
	}
}

func TestCompressionChangesNothing(t *testing.T) {
	h, block := firsts, [128]byte(varied(28, 128))
	one := blake.Compress(h, block, octet.Wide{Lo: 128}, true)
	two := blake.Compress(h, block, octet.Wide{Lo: 128}, true)
	if h != firsts || block != [128]byte(varied(28, 128)) || one != two {
		t.Error("R4, R5: the numbers or the block were changed")
	}
}
