package nh_test

import (
	"bytes"
	"encoding/binary"
	"encoding/hex"
	"math"
	"math/big"
	"slices"
	"testing"

	"wringer/api"
	"wringer/nh"
	"wringer/poly"
)

func power(n uint) *big.Int { return new(big.Int).Lsh(big.NewInt(1), n) }

// round is a number modulo 2^bits.
func round(n *big.Int, bits uint) *big.Int { return n.Mod(n, power(bits)) }

// added is the sum of a message's number and a key's, which goes round at 2^32.
func added(m, k uint32) *big.Int {
	return round(big.NewInt(int64(m)+int64(k)), 32)
}

// hashed reckons pass by pass, with numbers that only go round where the chapter says so.
func hashed(words []uint32, b []byte) [32]byte {
	m := make([]uint32, len(b)/4)
	for i := range m {
		m[i] = binary.LittleEndian.Uint32(b[4*i:])
	}
	var out [32]byte
	for p := range 4 {
		sum := new(big.Int)
		for u := range len(b) / 16 {
			at, k := m[4*u:], words[4*u+4*p:]
			sum.Add(sum, new(big.Int).Mul(added(at[0], k[0]), added(at[2], k[2])))
			sum.Add(sum, new(big.Int).Mul(added(at[1], k[1]), added(at[3], k[3])))
		}
		binary.LittleEndian.PutUint64(out[8*p:], round(sum, 64).Uint64())
	}
	return out
}

// varied are n bytes that hang on a number.
func varied(seed uint32, n int) []byte {
	b := make([]byte, n)
	for i := range b {
		seed = seed*1664525 + 1013904223
		b[i] = byte(seed >> 24)
	}
	return b
}

// numbers are n numbers of 32 bits that hang on another one.
func numbers(seed uint32, n int) []uint32 {
	b, out := varied(seed, 4*n), make([]uint32, n)
	for i := range out {
		out[i] = binary.LittleEndian.Uint32(b[4*i:])
	}
	return out
}

func hash(t *testing.T, words []uint32, b []byte) [32]byte {
	t.Helper()
	h, e := nh.Hash(words, b)
	if e != api.OK {
		t.Fatalf("P9.1: Hash by %d words, of %d bytes: error %d", len(words), len(b), e)
	}
	return h
}

// passes are a hash's four numbers.
func passes(h [32]byte) [4]uint64 {
	var all [4]uint64
	for p := range all {
		all[p] = binary.LittleEndian.Uint64(h[8*p:])
	}
	return all
}

// needed are as many words as a hash of so many bytes takes.
func needed(length int) int { return length/4 + 12 }

// unit are the numbers 1, 2, 3, 4 in bytes.
func unit() []byte {
	return []byte{1, 0, 0, 0, 2, 0, 0, 0, 3, 0, 0, 0, 4, 0, 0, 0}
}

func TestWords(t *testing.T) {
	key := varied(1, 1072)
	words, e := nh.Words(key)
	if e != api.OK || len(words) != 268 {
		t.Fatalf("P9.1: Words: %d words, error %d", len(words), e)
	}
	for i, w := range words {
		if w != binary.LittleEndian.Uint32(key[4*i:]) {
			t.Errorf("P9.1: the word at %d: %x", i, w)
		}
	}
	edges := make([]byte, 1072)
	edges[0], edges[3], edges[1068], edges[1071] = 1, 2, 3, 4
	if words, _ = nh.Words(edges); words[0] != 2<<24+1 || words[267] != 4<<24+3 || words[1] != 0 || words[266] != 0 {
		t.Errorf("P9.1: the first and the last word: %x, %x", words[0], words[267])
	}
}

func TestWordsOfOtherKeys(t *testing.T) {
	for _, n := range []int{0, 1, 4, 16, 1024, 1068, 1070, 1071, 1073, 1074, 1076, 1088, 1104, 2144, 65536 + 1072} {
		if words, e := nh.Words(make([]byte, n)); e != api.ErrKey || len(words) != 0 {
			t.Errorf("P9.1, R2: Words of %d bytes: %d words, error %d", n, len(words), e)
		}
	}
	if words, e := nh.Words(nil); e != api.ErrKey || len(words) != 0 {
		t.Errorf("P9.1, R3: Words of nil: %d words, error %d", len(words), e)
	}
	// The spare room behind a key's end is none of it.
	if _, e := nh.Words(make([]byte, 1071, 1072)); e != api.ErrKey {
		t.Errorf("P9.1: Words of 1071 bytes, with room for one more: error %d", e)
	}
}

func TestExample(t *testing.T) {
	if got := passes(hash(t, make([]uint32, 16), unit())); got != [4]uint64{11, 11, 11, 11} {
		t.Errorf("P9.1: the example: %v", got)
	}
}

// TestPublishedHash is the second of Linux's nhpoly1305_tv_template: of a unit's hash the one of layer 8.
func TestPublishedHash(t *testing.T) {
	key, _ := hex.DecodeString("72239df5f007f24c203a93b9cd5dfecb992c2b58c6505f9456c37c0d023fb85e" +
		"7bc06c513476c00ec622c89e92a021c9855c7cf8e26447c9e4a25793f8a269cd")
	b, _ := hex.DecodeString("bcda81a878791cbf7753ba4c305bb833")
	polyKey, _ := hex.DecodeString("292143cbcb1307debf48df8a7fa284de")
	// Sixteen words are enough for one unit; what would stand behind them is not looked at.
	words, e := nh.Words(append(key, make([]byte, 1072-len(key))...))
	if e != api.OK {
		t.Fatalf("P9.1: Words: error %d", e)
	}
	h := hash(t, words[:16], b)
	if tag := poly.Hash([16]byte(polyKey), h[:]); hex.EncodeToString(tag[:]) != "04bf7f6ace72ea6a79dbb0c960f612cc" {
		t.Errorf("P9.1: the hash of a unit: %x, and of it: %x", h, tag)
	}
}

// TestEachWordsPlace makes one word alone 1, so that its pass grows by the number that its product goes with.
func TestEachWordsPlace(t *testing.T) {
	b := make([]byte, 16)
	for i, n := range []uint32{3, 5, 7, 11} {
		binary.LittleEndian.PutUint32(b[4*i:], n)
	}
	partner := []uint64{7, 11, 3, 5}
	for at := range 16 {
		words := make([]uint32, 16)
		words[at] = 1
		want := [4]uint64{76, 76, 76, 76}
		want[at/4] += partner[at%4]
		if got := passes(hash(t, words, b)); got != want {
			t.Errorf("P9.1: a word 1 at %d: %v, not %v", at, got, want)
		}
	}
}

func TestSumsGoRound(t *testing.T) {
	b := unit()
	words := make([]uint32, 16)
	words[0], words[5] = math.MaxUint32, 9
	// 1 and 2^32 - 1 are 0; 2 and 9 are 11.
	if got := passes(hash(t, words, b)); got != [4]uint64{8, 3 + 44, 11, 11} {
		t.Errorf("P9.1, R6: %v", got)
	}
	// (2^32 - 1)^2 twice goes round at 2^64, for each of 64 units.
	for _, n := range []int{16, 32, 1024} {
		most := bytes.Repeat([]byte{255}, n)
		square := uint64(math.MaxUint32) * math.MaxUint32
		want := uint64(n/16) * 2 * square
		if got := passes(hash(t, make([]uint32, needed(n)), most)); got != [4]uint64{want, want, want, want} {
			t.Errorf("P9.1, R6: %d bytes 255: %x", n, got)
		}
		ones := slices.Repeat([]uint32{1}, needed(n))
		if got := hash(t, ones, most); got != [32]byte{} {
			t.Errorf("P9.1, R6: %d bytes 255 by words 1: %x", n, got)
		}
	}
}

func TestHashesOfAllLengths(t *testing.T) {
	full := make([]uint32, 268)
	for i := range full {
		full[i] = math.MaxUint32
	}
	for n := 0; n <= 1024; n += 16 {
		for seed, words := range [][]uint32{numbers(2, 268), full, make([]uint32, 268)} {
			for _, b := range [][]byte{varied(uint32(seed)+uint32(n), n), make([]byte, n), bytes.Repeat([]byte{255}, n)} {
				if got := hash(t, words, b); got != hashed(words, b) {
					t.Fatalf("P9.1: the hash of %d bytes: %x", n, got)
				}
			}
		}
	}
}

func TestHashOfNoBytes(t *testing.T) {
	for _, b := range [][]byte{nil, {}, make([]byte, 0, 16)} {
		for _, words := range [][]uint32{numbers(3, 12), numbers(3, 268)} {
			if h := hash(t, words, b); h != [32]byte{} {
				t.Errorf("P9.1, R3: the hash of no bytes: %x", h)
			}
		}
	}
}

func TestHashByTheWordsOfAKey(t *testing.T) {
	words, e := nh.Words(varied(4, 1072))
	if e != api.OK {
		t.Fatalf("P9.1: Words: error %d", e)
	}
	b := varied(5, 1024)
	if got := hash(t, words, b); got != hashed(numbers(4, 268), b) {
		t.Errorf("P9.1: the hash of 1024 bytes by a key's words: %x", got)
	}
}

// TestHashesThatThereAreNot has every length around the bounds with too few and enough words.
func TestHashesThatThereAreNot(t *testing.T) {
	for _, n := range []int{0, 1, 8, 15, 16, 17, 31, 32, 33, 1000, 1007, 1008, 1009, 1023, 1024, 1025, 1039, 1040, 1041, 2048, 65536} {
		for _, words := range []int{0, 1, 11, 12, 15, 16, 19, 20, needed(n) - 1, needed(n), needed(n) + 1, 267, 268, 300, 20000} {
			want := api.OK
			if words < needed(n/16*16) {
				want = api.ErrKey
			}
			if n%16 != 0 {
				want = api.ErrShape
			}
			if n > 1024 {
				want = api.ErrLong
			}
			h, e := nh.Hash(make([]uint32, words), bytes.Repeat([]byte{1}, n))
			if e != want || e != api.OK && h != [32]byte{} {
				t.Errorf("P9.1, R2: %d words, %d bytes: %x, error %d, not %d", words, n, h, e, want)
			}
		}
	}
	if h, e := nh.Hash(nil, nil); e != api.ErrKey || h != [32]byte{} {
		t.Errorf("P9.1, R3: nothing at all: %x, error %d", h, e)
	}
}

func TestWordsInSpareRoomAreNone(t *testing.T) {
	for n := 0; n <= 1024; n += 16 {
		whole := numbers(6, 300)
		if h, e := nh.Hash(whole[:needed(n)-1], varied(7, n)); e != api.ErrKey || h != [32]byte{} {
			t.Errorf("P9.1: one word too few for %d bytes: %x, error %d", n, h, e)
		}
	}
}

// TestOnlySoManyWordsCount changes the word behind those that are needed, and each of those.
func TestOnlySoManyWordsCount(t *testing.T) {
	for _, n := range []int{0, 16, 32, 1024} {
		b := varied(8, n)
		just := hash(t, numbers(9, needed(n)), b)
		if hash(t, append(numbers(9, needed(n)), numbers(10, 50)...), b) != just {
			t.Errorf("P9.1: %d bytes: words behind those that are needed count", n)
		}
		for at := range needed(n) {
			words := numbers(9, needed(n))
			words[at] ^= 1 << 31
			// Of no bytes no word counts.
			if (hash(t, words, b) == just) != (n == 0) {
				t.Errorf("P9.1: %d bytes: the word at %d", n, at)
			}
		}
	}
}

func TestHashesAreSums(t *testing.T) {
	words := numbers(11, 268)
	for _, n := range []int{16, 32, 48, 512, 1008, 1024} {
		b := varied(12, n)
		whole := passes(hash(t, words, b))
		for cut := 0; cut <= n; cut += 16 {
			one, two := passes(hash(t, words, b[:cut])), passes(hash(t, words[cut/4:], b[cut:]))
			for p := range 4 {
				if whole[p] != one[p]+two[p] {
					t.Fatalf("P9.2: %d bytes, %d of them first, in the pass %d", n, cut, p)
				}
			}
		}
	}
}

func TestPassesAreFourPlacesApart(t *testing.T) {
	words := numbers(13, 300)
	for _, n := range []int{0, 16, 32, 512, 1024} {
		b := varied(14, n)
		here, next := passes(hash(t, words, b)), passes(hash(t, words[4:], b))
		for p := range 3 {
			if here[p+1] != next[p] {
				t.Errorf("P9.2: %d bytes: the pass %d is not the one ahead of it, from four places on", n, p+1)
			}
		}
	}
}

func TestWhatIsHandedInIsNeitherChangedNorKept(t *testing.T) {
	// With room to spare behind the ends.
	key := varied(15, 1200)
	words, _ := nh.Words(key[:1072])
	if !bytes.Equal(key, varied(15, 1200)) {
		t.Error("R4: a key, or what is behind it, was changed")
	}
	clear(key)
	if !slices.Equal(words, numbers(15, 268)) {
		t.Error("R4: a key was kept")
	}
	key = varied(15, 1072)
	again, _ := nh.Words(key)
	clear(again[:cap(again)])
	if !bytes.Equal(key, varied(15, 1072)) || !slices.Equal(words, numbers(15, 268)) {
		t.Error("R4: words that were handed out are shared")
	}
	for _, n := range []int{0, 16, 100, 512, 1024, 1040} {
		for _, many := range []int{11, 12, 140, 268} {
			all, b := numbers(16, 300), varied(17, 1100)
			one, _ := nh.Hash(all[:many], b[:n])
			two, _ := nh.Hash(all[:many], b[:n])
			if !slices.Equal(all, numbers(16, 300)) || !bytes.Equal(b, varied(17, 1100)) {
				t.Errorf("R4: %d words, %d bytes: what was handed in was changed", many, n)
			}
			if one != two {
				t.Errorf("R5: %d words, %d bytes: two calls answer two things", many, n)
			}
		}
	}
}
