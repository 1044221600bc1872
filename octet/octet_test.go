package octet_test

import (
	"bytes"
	"math"
	"math/big"
	"testing"

	"wringer/octet"
)

// edges are the halves of which the wide numbers of these tests are made.
var edges = []uint64{0, 1, 2, 0x0102030405060708, 1<<63 - 1, 1 << 63, 1<<64 - 2, 1<<64 - 1}

func wides() []octet.Wide {
	var all []octet.Wide
	for _, lo := range edges {
		for _, hi := range edges {
			all = append(all, octet.Wide{Lo: lo, Hi: hi})
		}
	}
	return all
}

func asBig(w octet.Wide) *big.Int {
	n := new(big.Int).SetUint64(w.Hi)
	return n.Lsh(n, 64).Or(n, new(big.Int).SetUint64(w.Lo))
}

// around is n modulo 2^128.
func around(n *big.Int) *big.Int {
	return n.Mod(n, new(big.Int).Lsh(big.NewInt(1), 128))
}

// rising is a row of n bytes that are all told apart.
func rising(n int) []byte {
	b := make([]byte, n)
	for i := range b {
		b[i] = byte(i + 1)
	}
	return b
}

func TestWordAtPlacesOfTheRow(t *testing.T) {
	b := []byte{1, 2, 3, 4, 5}
	for _, c := range []struct {
		at   int
		want uint32
	}{{0, 0x04030201}, {1, 84148994}, {2, 0x00050403}, {3, 1284}, {4, 5}, {5, 0}} {
		if n := octet.Word(b, c.at); n != c.want {
			t.Errorf("P1.1: Word at %d is %x, not %x", c.at, n, c.want)
		}
	}
	if n := octet.Word([]byte{0xff, 0xfe, 0xfd, 0xfc}, 0); n != 0xfcfdfeff {
		t.Errorf("P1.1: Word of high bytes is %x", n)
	}
}

func TestLongAtPlacesOfTheRow(t *testing.T) {
	b := rising(10)
	for _, c := range []struct {
		at   int
		want uint64
	}{{0, 0x0807060504030201}, {2, 0x0a09080706050403}, {3, 0x000a090807060504}, {9, 10}, {10, 0}, {-1, 0x0706050403020100}, {-7, 1 << 56}, {-8, 0}} {
		if n := octet.Long(b, c.at); n != c.want {
			t.Errorf("P1.1: Long at %d is %x, not %x", c.at, n, c.want)
		}
	}
	if n := octet.Long(bytes.Repeat([]byte{0xff}, 8), 0); n != 1<<64-1 {
		t.Errorf("P1.1: Long of bytes 255 is %x", n)
	}
}

// TestPlacesThatARowHasNot goes by places as whole numbers that cannot go round.
func TestPlacesThatARowHasNot(t *testing.T) {
	places := []int{}
	for d := range 20 {
		places = append(places, d-10, math.MaxInt-d, math.MinInt+d, 1<<32+d-10, -1<<32+d-10)
	}
	for _, b := range [][]byte{nil, {}, rising(1), rising(3), rising(4), rising(7), rising(8), rising(9)} {
		for _, at := range places {
			var want uint64
			for i := range 8 {
				place := new(big.Int).Add(big.NewInt(int64(at)), big.NewInt(int64(i)))
				if place.Sign() >= 0 && place.Cmp(big.NewInt(int64(len(b)))) < 0 {
					want |= uint64(b[place.Int64()]) << (8 * i)
				}
			}
			if n := octet.Long(b, at); n != want {
				t.Errorf("P1.1: Long of %v at %d is %x, not %x", b, at, n, want)
			}
			if n := octet.Word(b, at); n != uint32(want) {
				t.Errorf("P1.1: Word of %v at %d is %x, not %x", b, at, n, uint32(want))
			}
		}
	}
}

func TestBytesBehindTheEndCountAsNought(t *testing.T) {
	whole := bytes.Repeat([]byte{0xee}, 32)
	b := whole[:1]
	if octet.Word(b, 0) != 0xee || octet.Long(b, 0) != 0xee || octet.Load(b) != (octet.Wide{Lo: 0xee}) || octet.Block(b) != [16]byte{0xee} {
		t.Error("P1.1, P1.2: the spare room behind a row's end was read")
	}
}

func TestPut(t *testing.T) {
	if b := octet.PutWord(0x01020304); b != [4]byte{4, 3, 2, 1} {
		t.Errorf("P1.1: PutWord: %v", b)
	}
	if b := octet.PutLong(0x0102030405060708); b != [8]byte{8, 7, 6, 5, 4, 3, 2, 1} {
		t.Errorf("P1.1: PutLong: %v", b)
	}
	if octet.PutWord(0) != [4]byte{} || octet.PutLong(0) != [8]byte{} {
		t.Error("P1.1: noughts")
	}
	if octet.PutWord(math.MaxUint32) != [4]byte{255, 255, 255, 255} || octet.PutLong(255<<56) != [8]byte{7: 255} {
		t.Error("P1.1: the greatest bytes")
	}
}

func TestWhatIsPutIsTheNumberAgain(t *testing.T) {
	for _, n := range edges {
		long, word := octet.PutLong(n), octet.PutWord(uint32(n))
		if octet.Long(long[:], 0) != n {
			t.Errorf("P1.4: %x is put as %v", n, long)
		}
		if octet.Word(word[:], 0) != uint32(n) {
			t.Errorf("P1.4: %x is put as %v", uint32(n), word)
		}
	}
	for _, w := range wides() {
		b := w.Bytes()
		if octet.Load(b[:]) != w {
			t.Errorf("P1.4: %x is put as %v", w, b)
		}
		if octet.Block(b[:]) != b {
			t.Errorf("P1.2: the block of %v is another one", b)
		}
	}
	b := rising(16)
	if back := octet.Load(b).Bytes(); !bytes.Equal(back[:], b) {
		t.Errorf("P1.4: %v came back as %v", b, back)
	}
}

func TestLoadAndBlock(t *testing.T) {
	long := rising(20)
	for n := range 21 {
		var want [16]byte
		for i := range min(n, 16) {
			want[i] = long[i]
		}
		if b := octet.Block(long[:n]); b != want {
			t.Errorf("P1.2: Block of %d bytes: %v", n, b)
		}
		if w := octet.Load(long[:n]); w.Bytes() != want {
			t.Errorf("P1.2: Load of %d bytes: %x", n, w)
		}
	}
	if w := octet.Load(long); w != (octet.Wide{Lo: 0x0807060504030201, Hi: 0x100f0e0d0c0b0a09}) {
		t.Errorf("P1.2: Load: %x", w)
	}
	for _, none := range [][]byte{nil, {}} {
		if octet.Load(none) != (octet.Wide{}) || octet.Block(none) != [16]byte{} {
			t.Error("P1.2, R3: of no bytes")
		}
	}
	if b := (octet.Wide{Lo: 3, Hi: 5 << 56}).Bytes(); b != [16]byte{0: 3, 15: 5} {
		t.Errorf("P1.2: Bytes: %v", b)
	}
}

func TestSumsAndDifferencesGoRound(t *testing.T) {
	for _, v := range wides() {
		for _, w := range wides() {
			sum := around(new(big.Int).Add(asBig(v), asBig(w)))
			if got := v.Plus(w); asBig(got).Cmp(sum) != 0 {
				t.Fatalf("P1.2: %x and %x add up to %x", v, w, got)
			}
			rest := around(new(big.Int).Sub(asBig(v), asBig(w)))
			if got := v.Minus(w); asBig(got).Cmp(rest) != 0 {
				t.Fatalf("P1.2: %x without %x is %x", v, w, got)
			}
		}
	}
	most, one := octet.Wide{Lo: 1<<64 - 1, Hi: 1<<64 - 1}, octet.Wide{Lo: 1}
	if most.Plus(one) != (octet.Wide{}) || (octet.Wide{}).Minus(one) != most {
		t.Error("P1.2: at 2^128")
	}
}

func TestXor(t *testing.T) {
	for _, c := range []struct{ a, b, want []byte }{
		{[]byte{1, 2, 3}, []byte{3, 3}, []byte{2, 1}},
		{[]byte{3, 3}, []byte{1, 2, 3}, []byte{2, 1}},
		{[]byte{0xff, 0x0f}, []byte{0xf0, 0x0f}, []byte{0x0f, 0}},
		{nil, []byte{1}, nil},
		{[]byte{1}, []byte{}, nil},
		{nil, nil, nil},
	} {
		if x := octet.Xor(c.a, c.b); !bytes.Equal(x, c.want) {
			t.Errorf("P1.3: Xor of %v and %v: %v", c.a, c.b, x)
		}
	}
}

func TestSame(t *testing.T) {
	if !octet.Same(nil, []byte{}) || !octet.Same([]byte{}, nil) || !octet.Same(nil, nil) {
		t.Error("P1.3, R3: rows of no bytes are the same")
	}
	if octet.Same(nil, []byte{0}) || octet.Same([]byte{0}, nil) || octet.Same([]byte{1, 0}, []byte{1}) || octet.Same([]byte{1}, []byte{1, 0}) {
		t.Error("P1.3: rows of two lengths are not the same")
	}
	for n := range 20 {
		a, b := rising(n), rising(n)
		if !octet.Same(a, b) || !octet.Same(a, a) {
			t.Errorf("P1.3: two rows of %d bytes that are the same", n)
		}
		for i := range n {
			for bit := range 8 {
				b[i] ^= 1 << bit
				if octet.Same(a, b) || octet.Same(b, a) {
					t.Errorf("P1.3: bit %d of byte %d of %d was not seen", bit, i, n)
				}
				b[i] ^= 1 << bit
			}
		}
	}
	// Differences that would cancel out, were they added up.
	if octet.Same([]byte{1, 1}, []byte{2, 2}) || octet.Same([]byte{1, 2}, []byte{2, 1}) || octet.Same([]byte{0x80, 0x80}, []byte{0, 0}) {
		t.Error("P1.3: two differences that are alike")
	}
}

// paddedLength counts on, one by one, to a length that size divides.
func paddedLength(n, size int) int {
	for size > 0 && n%size != 0 {
		n++
	}
	return n
}

func TestPaddedAndMarked(t *testing.T) {
	for n := range 40 {
		b := rising(n)
		for _, size := range []int{math.MinInt, -16, -1, 0, 1, 2, 3, 4, 7, 16, 39, 40, 41, 1000} {
			want := append(rising(n), make([]byte, paddedLength(n, size)-n)...)
			if got := octet.Padded(b, size); !bytes.Equal(got, want) {
				t.Errorf("P1.3: Padded of %d bytes to %d: %v", n, size, got)
			}
			for _, mark := range []byte{0, 1, 128, 255} {
				want := append(append(rising(n), mark), make([]byte, paddedLength(n+1, size)-n-1)...)
				if got := octet.Marked(b, mark, size); !bytes.Equal(got, want) {
					t.Errorf("P1.3: Marked of %d bytes by %d to %d: %v", n, mark, size, got)
				}
			}
		}
	}
}

func TestPaddedAndMarkedOfNoBytes(t *testing.T) {
	for _, none := range [][]byte{nil, {}} {
		for _, size := range []int{math.MinInt, -1, 0, 1, 4, math.MaxInt} {
			if got := octet.Padded(none, size); len(got) != 0 {
				t.Errorf("P1.3: Padded of no bytes to %d: %v", size, got)
			}
		}
		if got := octet.Marked(none, 1, 4); !bytes.Equal(got, []byte{1, 0, 0, 0}) {
			t.Errorf("P1.3: Marked of no bytes: %v", got)
		}
		if got := octet.Marked(none, 9, 0); !bytes.Equal(got, []byte{9}) {
			t.Errorf("P1.3: Marked of no bytes to 0: %v", got)
		}
	}
	if got := octet.Marked([]byte{7, 8}, 128, 4); !bytes.Equal(got, []byte{7, 8, 128, 0}) {
		t.Errorf("P1.3: Marked: %v", got)
	}
}

// TestRowsMarkedAlikeAreTheSame marks all rows of up to four bytes that are 0, the mark, or another one.
func TestRowsMarkedAlikeAreTheSame(t *testing.T) {
	for _, mark := range []byte{1, 128, 255} {
		rows := [][]byte{{}}
		for from := 0; len(rows[from]) < 4; from++ {
			for _, last := range []byte{0, mark, 77} {
				rows = append(rows, append(bytes.Clone(rows[from]), last))
			}
		}
		for _, size := range []int{-1, 0, 1, 2, 3, 4, 5, 16} {
			seen := map[string][]byte{}
			for _, row := range rows {
				marked := string(octet.Marked(row, mark, size))
				if other, ok := seen[marked]; ok {
					t.Errorf("P1.4: %v and %v are marked alike, by %d to %d", row, other, mark, size)
				}
				seen[marked] = row
			}
		}
	}
}

// rowCalls are the calls that answer a list, each with its row in the place of a and of b.
func rowCalls() map[string]func(a, b []byte) []byte {
	return map[string]func(a, b []byte) []byte{
		"Xor":                      octet.Xor,
		"Padded":                   func(a, _ []byte) []byte { return octet.Padded(a, 16) },
		"Padded, a multiple":       func(a, _ []byte) []byte { return octet.Padded(a, 3) },
		"Padded, size 0":           func(a, _ []byte) []byte { return octet.Padded(a, 0) },
		"Marked":                   func(a, _ []byte) []byte { return octet.Marked(a, 1, 16) },
		"Marked, no nought behind": func(a, _ []byte) []byte { return octet.Marked(a, 1, 4) },
		"Marked, size 0":           func(a, _ []byte) []byte { return octet.Marked(a, 1, 0) },
	}
}

func TestRowsAreNeitherChangedNorKept(t *testing.T) {
	for name, call := range rowCalls() {
		// Three bytes each, with room to spare behind their ends.
		wholeA, wholeB := rising(40), bytes.Repeat([]byte{0xaa}, 40)
		a, b := wholeA[:3], wholeB[:3]
		got := call(a, b)
		want := bytes.Clone(got)
		clear(got[:cap(got)])
		if !bytes.Equal(wholeA, rising(40)) || !bytes.Equal(wholeB, bytes.Repeat([]byte{0xaa}, 40)) {
			t.Errorf("R4: %s: what was handed in was changed, or handed out", name)
		}
		got = call(a, b)
		clear(wholeA)
		clear(wholeB)
		if !bytes.Equal(got, want) {
			t.Errorf("R4: %s: what was handed in was kept", name)
		}
	}
}

func TestReadersChangeNothing(t *testing.T) {
	whole, other := rising(40), rising(40)
	b := whole[:5]
	for at := -9; at < 10; at++ {
		octet.Word(b, at)
		octet.Long(b, at)
	}
	octet.Load(b)
	octet.Same(b, other[:5])
	block := octet.Block(b)
	block[0] = 99
	if !bytes.Equal(whole, rising(40)) || !bytes.Equal(other, rising(40)) {
		t.Error("R4: what was handed in was changed")
	}
	v, w := octet.Wide{Lo: 1, Hi: 2}, octet.Wide{Lo: 3, Hi: 4}
	v.Plus(w)
	v.Minus(w)
	if v != (octet.Wide{Lo: 1, Hi: 2}) || w != (octet.Wide{Lo: 3, Hi: 4}) {
		t.Error("R4: a number was changed")
	}
}
