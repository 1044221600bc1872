package ezhash_test

import (
	"bytes"
	"crypto/sha256"
	"encoding/binary"
	"encoding/hex"
	"math"
	"slices"
	"testing"

	"wringer/api"
	"wringer/ezhash"
	"wringer/ezkey"
	"wringer/gf"
	"wringer/turn"
)

// The tests cut strings and rows in their own way, and take E from layer 15; some known answers come from elsewhere.

func plus(blocks ...[16]byte) [16]byte {
	var out [16]byte
	for _, b := range blocks {
		for i := range out {
			out[i] ^= b[i]
		}
	}
	return out
}

// part is what a string brings, as the chapter says it.
func part(k *ezkey.Keys, j int, b []byte) [16]byte {
	var out [16]byte
	if len(b) == 0 {
		return k.E(j, 0, [16]byte{128})
	}
	for i, block := range slices.Collect(slices.Chunk(b, 16)) {
		if len(block) == 16 {
			out = plus(out, k.E(j, i+1, [16]byte(block)))
			continue
		}
		whole := [16]byte{}
		copy(whole[:], block)
		whole[len(block)] = 128
		out = plus(out, k.E(j, 0, whole))
	}
	return out
}

func hash(k *ezkey.Keys, row [][]byte) [16]byte {
	var out [16]byte
	for i, b := range row {
		out = plus(out, part(k, i+3, b))
	}
	return out
}

// many are n bytes of a row.
func many(k *ezkey.Keys, row [][]byte, n int) []byte {
	var out []byte
	for i := range (n + 15) / 16 {
		var number [16]byte
		binary.BigEndian.PutUint64(number[8:], uint64(i))
		block := k.E(-1, 3, plus(hash(k, row), number))
		out = append(out, block[:]...)
	}
	return out[:n]
}

// varied are n bytes that hang on a number.
func varied(seed uint32, n int) []byte {
	b := make([]byte, n)
	for i := range b {
		seed = seed*1664525 + 1013904223
		b[i] = byte(seed >> 24)
	}
	return b
}

// rising are 0 1 2 .. , n bytes.
func rising(n int) []byte {
	b := make([]byte, n)
	for i := range b {
		b[i] = byte(i)
	}
	return b
}

// contents are n noughts, n of the greatest bytes, and n of any.
func contents(seed uint32, n int) [][]byte {
	return [][]byte{make([]byte, n), bytes.Repeat([]byte{255}, n), varied(seed, n)}
}

// rows are of no strings, of one, and of many, some of them empty.
func rows() [][][]byte {
	long := make([][]byte, 300)
	for i := range long {
		long[i] = varied(uint32(i), i%50)
	}
	return [][][]byte{
		nil, {}, {nil}, {{}}, {nil, nil}, {{}, nil, {}}, {{0}}, {{128}}, {rising(15)}, {rising(16)}, {rising(17)},
		{rising(31), rising(32), rising(33)}, {nil, rising(16)}, {rising(16), nil}, {rising(5), nil, rising(400)}, {rising(7), rising(7), rising(7)},
		make([][]byte, 100), long,
	}
}

var lengths = []int{0, 1, 2, 14, 15, 16, 17, 18, 30, 31, 32, 33, 47, 48, 49, 63, 64, 65, 127, 128, 129, 130, 300, 500, 1000, 4111}

func keysOf(t *testing.T, key []byte) *ezkey.Keys {
	t.Helper()
	k, e := ezkey.Extract(turn.New(gf.Make()), key)
	if e != api.OK {
		t.Fatalf("Extract of %d bytes: error %d", len(key), e)
	}
	return k
}

func TestPartsOfStrings(t *testing.T) {
	for _, key := range [][]byte{varied(1, 48), varied(2, 16), bytes.Repeat([]byte{255}, 48)} {
		k := keysOf(t, key)
		for _, j := range []int{-1, 0, 1, 2, 3, 4, 9, 255, 256, 1 << 32, math.MaxInt} {
			for _, n := range lengths {
				for _, b := range contents(3, n) {
					if got := ezhash.Part(k, j, b); got != part(k, j, b) {
						t.Fatalf("P16.1: Part of %d bytes with %d: %x", n, j, got)
					}
				}
			}
		}
	}
}

// TestPartsBlockByBlock is written out by hand, with E alone.
func TestPartsBlockByBlock(t *testing.T) {
	k := keysOf(t, []byte("some key"))
	b := varied(4, 40)
	first, second := [16]byte(b[:16]), [16]byte(b[16:32])
	for _, c := range []struct {
		b    []byte
		want [16]byte
	}{
		{nil, k.E(6, 0, [16]byte{128})},
		{[]byte{}, k.E(6, 0, [16]byte{128})},
		{[]byte{0}, k.E(6, 0, [16]byte{0, 128})},
		{[]byte{128}, k.E(6, 0, [16]byte{128, 128})},
		{make([]byte, 15), k.E(6, 0, [16]byte{15: 128})},
		{make([]byte, 16), k.E(6, 1, [16]byte{})},
		{make([]byte, 17), plus(k.E(6, 1, [16]byte{}), k.E(6, 0, [16]byte{0, 128}))},
		{b[:16], k.E(6, 1, first)},
		{b[:18], plus(k.E(6, 1, first), k.E(6, 0, [16]byte{b[16], b[17], 128}))},
		{b[:32], plus(k.E(6, 1, first), k.E(6, 2, second))},
		{b[:33], plus(k.E(6, 1, first), k.E(6, 2, second), k.E(6, 0, [16]byte{b[32], 128}))},
	} {
		if got := ezhash.Part(k, 6, c.b); got != c.want {
			t.Errorf("P16.1: Part of %x: %x", c.b, got)
		}
	}
}

func TestPartsWithNumbersThatAreTooLow(t *testing.T) {
	k := keysOf(t, varied(5, 48))
	for _, j := range []int{-2, -3, -16, -1 << 32, -1<<32 - 1, math.MinInt + 1, math.MinInt} {
		for _, n := range lengths {
			if got := ezhash.Part(k, j, varied(6, n)); got != [16]byte{} {
				t.Errorf("P16.1: Part of %d bytes with %d: %x", n, j, got)
			}
		}
	}
}

// TestNoughtsAndMarksCount tells that what is put behind a string is not what it could end in itself.
func TestNoughtsAndMarksCount(t *testing.T) {
	k := keysOf(t, varied(7, 48))
	seen := map[[16]byte]bool{}
	for n := range 100 {
		seen[ezhash.Part(k, 3, make([]byte, n))] = true
		seen[ezhash.Part(k, 3, append(make([]byte, n), 128))] = true
	}
	if len(seen) != 200 {
		t.Errorf("P16.1: 200 strings bring %d parts", len(seen))
	}
}

func TestHashes(t *testing.T) {
	for _, key := range [][]byte{varied(8, 48), varied(9, 100)} {
		k := keysOf(t, key)
		for at, row := range rows() {
			if got := ezhash.Hash(k, row); got != hash(k, row) {
				t.Errorf("P16.1: Hash of row %d, of %d strings: %x", at, len(row), got)
			}
		}
		for _, n := range lengths {
			for _, b := range contents(10, n) {
				if got := ezhash.Hash(k, [][]byte{b}); got != part(k, 3, b) {
					t.Errorf("P16.1: Hash of a string of %d bytes: %x", n, got)
				}
				if got := ezhash.Hash(k, [][]byte{b, b[:n/2]}); got != plus(part(k, 3, b), part(k, 4, b[:n/2])) {
					t.Errorf("P16.1: Hash of strings of %d and %d bytes: %x", n, n/2, got)
				}
			}
		}
	}
}

func TestExample(t *testing.T) {
	k := keysOf(t, varied(11, 48))
	if ezhash.Hash(k, nil) != [16]byte{} || ezhash.Hash(k, [][]byte{}) != [16]byte{} {
		t.Error("P16.1: the hash of no strings is not noughts")
	}
	for _, row := range [][][]byte{{nil}, {{}}} {
		if ezhash.Hash(k, row) != k.E(3, 0, [16]byte{128}) {
			t.Error("P16.1: the hash of one empty string")
		}
	}
	if ezhash.Hash(k, [][]byte{nil, {}, nil}) != plus(k.E(3, 0, [16]byte{128}), k.E(4, 0, [16]byte{128}), k.E(5, 0, [16]byte{128})) {
		t.Error("P16.1: the hash of three empty strings")
	}
}

func TestKeysThatAreNil(t *testing.T) {
	for _, row := range rows() {
		if ezhash.Hash(nil, row) != [16]byte{} {
			t.Errorf("P16.1: Hash of nil, of %d strings", len(row))
		}
		for _, n := range []int{math.MinInt, -1, 0, 1, 16, 65536, 65537, math.MaxInt} {
			// The key is asked for ahead of the size.
			if b, e := ezhash.Prf(nil, row, n); len(b) != 0 || e != api.ErrKey {
				t.Errorf("P16.2, R2: %d bytes of nil: %d bytes, error %d", n, len(b), e)
			}
		}
	}
	for _, j := range []int{math.MinInt, -1, 0, 3, math.MaxInt} {
		for _, n := range lengths {
			if ezhash.Part(nil, j, varied(12, n)) != [16]byte{} {
				t.Errorf("P16.1: Part of nil, of %d bytes with %d", n, j)
			}
		}
	}
}

func TestSizesThatMayNotBe(t *testing.T) {
	k := keysOf(t, varied(13, 48))
	for _, n := range []int{-1, -2, -16, -65536, math.MinInt, 65537, 65538, 65552, 1 << 17, 1 << 31, 1 << 32, 1<<32 + 16, math.MaxInt} {
		for _, row := range [][][]byte{nil, {nil}, {rising(20)}} {
			if b, e := ezhash.Prf(k, row, n); len(b) != 0 || e != api.ErrSize {
				t.Errorf("P16.2, R2: %d bytes: %d bytes, error %d", n, len(b), e)
			}
		}
	}
}

func TestBytesOfRows(t *testing.T) {
	k := keysOf(t, varied(14, 48))
	for at, row := range rows() {
		for _, n := range []int{0, 1, 2, 15, 16, 17, 31, 32, 33, 48, 100} {
			b, e := ezhash.Prf(k, row, n)
			if e != api.OK || len(b) != n || !bytes.Equal(b, many(k, row, n)) {
				t.Errorf("P16.2: %d bytes of row %d: %x, error %d", n, at, b, e)
			}
		}
	}
	// Around numbers that have a second byte, and the most that may be.
	for _, n := range []int{4079, 4080, 4081, 4095, 4096, 4097, 4112, 4113, 8192, 65520, 65521, 65535, 65536} {
		b, e := ezhash.Prf(k, [][]byte{rising(20), nil}, n)
		if e != api.OK || !bytes.Equal(b, many(k, [][]byte{rising(20), nil}, n)) {
			t.Errorf("P16.2: %d bytes of a row are others: %d bytes, error %d", n, len(b), e)
		}
	}
}

// TestKnownRows holds hashes and bytes of rows against a program in another language that was written for it from the chapters, by its library's BLAKE2b.
func TestKnownRows(t *testing.T) {
	rows := [][][]byte{nil, {nil}, {[]byte("abc")}, {nil, nil}, {rising(16)}, {rising(15), rising(17)}, {rising(33), nil, rising(300), {128}}}
	for _, c := range []struct {
		key  []byte
		want [7]string
	}{
		{rising(48), [7]string{
			"00000000000000000000000000000000 0ad30797f1bb3d723aeb3131b8f0baacd16f96bd7044dffc766daa116cebc25c892ee56a2c",
			"1f79b6d8abbbca8743232e10e9105217 caf0b6e90187df8c92d3633af37f43bcde2aa626c2f690a9bf3eae8657e757ccdf65a807d4",
			"82ee0924ccf42e2897c126f5f8341174 3ce2578b911114a09fa8b23d9b1121a77792f94906f9414a6faa5d713891f6476409fcadcb",
			"bdc2ee9507d79fbcc6f53c161d0a0740 418ea6bbb0cdd53af2ef8305f1b2d9a1dc8543b0174a5e002ae6bacca503e5893b52ae28ff",
			"5e8016102cc862aea97bf52cb282dd30 7f43a1a2979afe05761e4d065bc27f6e5e8cc97b1c746b21d5d15e8f264deb2ce6f1699bf7",
			"daedfaf1231443bf492e41b4feca0bad 5d6074fec2e06f5d14150eb71ff1ef42bb06c382d39e4e270834588a9e05ee893f630d6bc8",
			"54de502911a998d11822cceb3d87fccc c2c99328e5aa84bc3ca33dd233951b548f0b33b77849f45a37b94e59a93b1460d3a4bcd9da",
		}},
		{[]byte("a key"), [7]string{
			"00000000000000000000000000000000 3bc2252402d2f185bd4fd899ba481deac6b6b39fb282b4c96beebae6b4ad477b5c5eaa88e6",
			"670ae72ba03edc6c927ba17c81dc6312 335333021ea66228b283b5eb8b790ae5f2f319b306ec36be7a45935ae31b3842d09459bc27",
			"0e4c27141eb69e69acf1d73ce9c20532 6e9ef11fa78ed283d38f1f3670ddc47122b1cd28859bff251ccbeb69233dbde6c0b80a6ef9",
			"b722ff29cf37206c634e8b44dda01684 20b077cb20e2d3b3e2b9950bd3d3021eca4fe70eb1c83d32100515764b28367eef3b9a8e71",
			"aa15639134054c5647a9268c7143f477 c572ef628e4505e400cd481fac326f9d1ed4eee3a5a9f0acc4f985164d57985b4203972a4e",
			"3930acdecb1bbb30068a1fb7c6038a5c 781d637de16118437bf8d1ddc8a4a2ba5216f4ed677bf1fd48a949f9dc9b0530c491739f26",
			"1006bd290d48fab9c5d8a5eed81fa217 a99547f49bb972d6771ced7f37cec22fbed4a278d0fe79b924b584597e64a8fb0d8154e15f",
		}},
	} {
		k := keysOf(t, c.key)
		for at, row := range rows {
			hash := ezhash.Hash(k, row)
			b, _ := ezhash.Prf(k, row, 37)
			if got := hex.EncodeToString(hash[:]) + " " + hex.EncodeToString(b); got != c.want[at] {
				t.Errorf("P16.1, P16.2: row %d, by %x: %s, not %s", at, c.key, got, c.want[at])
			}
		}
	}
	b, _ := ezhash.Prf(keysOf(t, []byte("a key")), rows[2], 65536)
	if sum := sha256.Sum256(b); hex.EncodeToString(sum[:]) != "961eba90a7e11a216e734e02ad6bc37845f5aa9704689c8e9590317387b8d68f" {
		t.Errorf("P16.2: the most bytes of abc have the sum %x", sum)
	}
}

func TestOneStringMore(t *testing.T) {
	k := keysOf(t, varied(15, 48))
	for _, row := range rows() {
		for _, n := range []int{0, 1, 15, 16, 17, 300} {
			b := varied(16, n)
			longer := append(slices.Clone(row), b)
			if got := ezhash.Hash(k, longer); got != plus(ezhash.Hash(k, row), ezhash.Part(k, len(row)+3, b)) {
				t.Errorf("P16.3: Hash of %d strings and one of %d bytes more: %x", len(row), n, got)
			}
		}
	}
}

func TestFewerBytesAreABeginning(t *testing.T) {
	k := keysOf(t, varied(17, 48))
	row := [][]byte{rising(3), nil, rising(90)}
	all, _ := ezhash.Prf(k, row, 65536)
	for n := range 600 {
		if b, e := ezhash.Prf(k, row, n); e != api.OK || !bytes.Equal(b, all[:n]) {
			t.Errorf("P16.3: %d bytes are no beginning of more", n)
		}
	}
	for _, n := range []int{4096, 30000, 65535, 65536} {
		if b, e := ezhash.Prf(k, row, n); e != api.OK || !bytes.Equal(b, all[:n]) {
			t.Errorf("P16.3: %d bytes are no beginning of more", n)
		}
	}
}

func TestWhatIsHandedInIsNeitherChangedNorKept(t *testing.T) {
	k := keysOf(t, varied(18, 48))
	for _, n := range []int{0, 1, 15, 16, 17, 31, 32, 33, 300} {
		// With room to spare behind the ends, of the strings and of the row.
		one, two := varied(19, 400), varied(20, 400)
		row := [][]byte{one[:n], two[:n/2], one[:3], two[:9]}
		part, hash := ezhash.Part(k, 3, one[:n]), ezhash.Hash(k, row[:2])
		b, _ := ezhash.Prf(k, row[:2], n)
		if !bytes.Equal(one, varied(19, 400)) || !bytes.Equal(two, varied(20, 400)) {
			t.Fatalf("R4: strings of %d and %d bytes, or what is behind them, were changed", n, n/2)
		}
		if len(row[0]) != n || len(row[1]) != n/2 || len(row[2]) != 3 || len(row[3]) != 9 || &row[2][0] != &one[0] || &row[3][0] != &two[0] {
			t.Fatalf("R4: a row of strings of %d and %d bytes, or what is behind it, was changed", n, n/2)
		}
		// What stands behind the ends counts nowhere.
		alone := [][]byte{varied(19, n), varied(20, n/2)}
		again, _ := ezhash.Prf(k, alone, n)
		if ezhash.Part(k, 3, alone[0]) != part || ezhash.Hash(k, alone) != hash || !bytes.Equal(again, b) {
			t.Errorf("R5: what is behind strings of %d and %d bytes counts", n, n/2)
		}
		// Other strings, and answers that are written over, change no other answer.
		clear(one)
		clear(two)
		clear(b)
		last, _ := ezhash.Prf(k, alone, n)
		if ezhash.Part(k, 3, alone[0]) != part || ezhash.Hash(k, alone) != hash || !bytes.Equal(last, again) {
			t.Errorf("R4, R5: strings of %d and %d bytes, or answers, were kept", n, n/2)
		}
	}
}
