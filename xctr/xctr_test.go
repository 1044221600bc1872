package xctr_test

import (
	"bytes"
	stdaes "crypto/aes"
	"encoding/hex"
	"math"
	"math/big"
	"slices"
	"testing"

	"wringer/aes"
	"wringer/api"
	"wringer/gf"
	"wringer/turn"
	"wringer/xctr"
)

// block reckons with numbers of any length, and enciphers by the library's AES.
func block(t *testing.T, key []byte, start [16]byte, i uint64) [16]byte {
	t.Helper()
	cipher, err := stdaes.NewCipher(key)
	if err != nil {
		t.Fatal(err)
	}
	turned := bytes.Clone(start[:])
	slices.Reverse(turned)
	n := new(big.Int).SetBytes(turned)
	in := n.Xor(n, new(big.Int).SetUint64(i)).FillBytes(make([]byte, 16))
	slices.Reverse(in)
	var out [16]byte
	cipher.Encrypt(out[:], in)
	return out
}

// crypted goes byte by byte, each one by the block that it stands in.
func crypted(t *testing.T, key []byte, start [16]byte, b []byte) []byte {
	t.Helper()
	out := bytes.Clone(b)
	var now [16]byte
	for at := range out {
		if at%16 == 0 {
			now = block(t, key, start, uint64(at/16+1))
		}
		out[at] ^= now[at%16]
	}
	return out
}

// varied are n bytes that hang on a number.
func varied(seed uint32, n int) []byte {
	b := make([]byte, n)
	for i := range b {
		seed = seed*1664525 + 1013904223
		b[i] = byte(seed >> 24)
	}
	return b
}

// contents are n noughts, n of the greatest bytes, and n of any.
func contents(seed uint32, n int) [][]byte {
	return [][]byte{make([]byte, n), bytes.Repeat([]byte{255}, n), varied(seed, n)}
}

// starts are noughts, the least and the greatest bytes, and any.
func starts() [][16]byte {
	return [][16]byte{{}, {1}, {255}, {7: 255}, {8: 1}, {15: 128}, [16]byte(bytes.Repeat([]byte{255}, 16)), [16]byte(varied(1, 16))}
}

// numbers are around each byte's end, and the greatest one.
func numbers() []uint64 {
	all := []uint64{0, 1, 2, 3, math.MaxUint64 - 1, math.MaxUint64}
	for bits := 8; bits < 64; bits += 8 {
		all = append(all, 1<<bits-1, 1<<bits, 1<<bits+1)
	}
	return append(all, 1<<63-1, 1<<63)
}

// lengths are of no bytes, of whole blocks, and of one byte less and more.
var lengths = []int{0, 1, 2, 15, 16, 17, 31, 32, 33, 47, 48, 49, 255, 256, 257, 4079, 4080, 4081, 4095, 4096, 4097, 4112}

func expand(t *testing.T, key []byte) *aes.Key {
	t.Helper()
	k, e := aes.Expand(turn.New(gf.Make()), key)
	if e != api.OK {
		t.Fatalf("a key of %d bytes: error %d", len(key), e)
	}
	return k
}

func crypt(t *testing.T, k *aes.Key, start [16]byte, b []byte) []byte {
	t.Helper()
	out, e := xctr.Crypt(k, start, b)
	if e != api.OK || len(out) != len(b) {
		t.Fatalf("P13.1: Crypt of %d bytes: %d bytes, error %d", len(b), len(out), e)
	}
	return out
}

func unhex(t *testing.T, text string) []byte {
	t.Helper()
	b, err := hex.DecodeString(text)
	if err != nil {
		t.Fatal(err)
	}
	return b
}

func TestExample(t *testing.T) {
	k := expand(t, make([]byte, 16))
	if got := xctr.Block(k, [16]byte{1}, 1); hex.EncodeToString(got[:]) != "66e94bd4ef8a2c3b884cfa59ca342b2e" {
		t.Errorf("P13.1: the example: %x", got)
	}
	if got := crypt(t, k, [16]byte{1}, make([]byte, 16)); hex.EncodeToString(got) != "66e94bd4ef8a2c3b884cfa59ca342b2e" {
		t.Errorf("P13.1: the stream begins with %x, not with the block 1", got)
	}
}

// TestPublishedBlocks are the examples of FIPS 197, appendix C: whatever the block's number is, there is a start that leads to them.
func TestPublishedBlocks(t *testing.T) {
	plain := unhex(t, "00112233445566778899aabbccddeeff")
	for _, c := range []struct{ key, text string }{
		{"000102030405060708090a0b0c0d0e0f", "69c4e0d86a7b0430d8cdb78070b4c55a"},
		{"000102030405060708090a0b0c0d0e0f1011121314151617", "dda97ca4864cdfe06eaf70a0ec0d7191"},
		{"000102030405060708090a0b0c0d0e0f101112131415161718191a1b1c1d1e1f", "8ea2b7ca516745bfeafc49904b496089"},
	} {
		k := expand(t, unhex(t, c.key))
		for _, i := range numbers() {
			start := [16]byte(plain)
			for place := range 8 {
				start[place] ^= byte(i >> (8 * place))
			}
			if got := xctr.Block(k, start, i); hex.EncodeToString(got[:]) != c.text {
				t.Errorf("P13.1: the block %d: %x, not %s", i, got, c.text)
			}
		}
	}
}

func TestBlocks(t *testing.T) {
	for _, size := range []int{16, 24, 32} {
		key := varied(2, size)
		k := expand(t, key)
		for _, start := range starts() {
			for _, i := range numbers() {
				if got := xctr.Block(k, start, i); got != block(t, key, start, i) {
					t.Errorf("P13.1: a key of %d bytes, the start %x, the block %d: %x", size, start, i, got)
				}
			}
			if xctr.Block(k, start, 0) != k.Encrypt(start) {
				t.Errorf("P13.1: the block 0 is not the start %x, enciphered", start)
			}
		}
	}
}

// TestNothingIsCarried has starts to which a number might be added instead.
func TestNothingIsCarried(t *testing.T) {
	k := expand(t, varied(3, 16))
	all := [16]byte(bytes.Repeat([]byte{255}, 16))
	if xctr.Block(k, [16]byte{255}, 1) != k.Encrypt([16]byte{254}) {
		t.Error("P13.1: 255 and 1 are not 254 by exclusive or")
	}
	without := all
	copy(without[:8], make([]byte, 8))
	if xctr.Block(k, all, math.MaxUint64) != k.Encrypt(without) {
		t.Error("P13.1: the greatest number does not take the lowest eight bytes away, and these alone")
	}
	if xctr.Block(k, [16]byte{8: 9}, math.MaxUint64) != k.Encrypt([16]byte{255, 255, 255, 255, 255, 255, 255, 255, 9}) {
		t.Error("P13.1: the greatest number does not fill the lowest eight bytes")
	}
}

func TestBlocksOfAStartDiffer(t *testing.T) {
	k := expand(t, varied(4, 32))
	told := map[[16]byte]bool{}
	for i := range uint64(1000) {
		told[xctr.Block(k, [16]byte{5}, i)] = true
	}
	if len(told) != 1000 {
		t.Errorf("P13.1: of 1000 blocks %d differ", len(told))
	}
}

func TestStreams(t *testing.T) {
	for _, size := range []int{16, 24, 32} {
		key := varied(5, size)
		k := expand(t, key)
		for _, start := range starts() {
			for _, n := range []int{0, 1, 15, 16, 17, 32, 33, 100} {
				for _, b := range contents(6, n) {
					if got := crypt(t, k, start, b); !bytes.Equal(got, crypted(t, key, start, b)) {
						t.Errorf("P13.1: a key of %d bytes, the start %x, %d bytes: %x", size, start, n, got)
					}
				}
			}
		}
	}
	key := varied(7, 16)
	k := expand(t, key)
	for _, n := range lengths {
		b, start := varied(8, n), [16]byte(varied(9, 16))
		if got := crypt(t, k, start, b); !bytes.Equal(got, crypted(t, key, start, b)) {
			t.Errorf("P13.1: %d bytes by the stream", n)
		}
	}
}

// TestALongStream has more blocks than two bytes can number.
func TestALongStream(t *testing.T) {
	k, start := expand(t, varied(10, 16)), [16]byte(varied(11, 16))
	stream := crypt(t, k, start, make([]byte, 16*65540+3))
	for _, i := range []int{1, 2, 255, 256, 257, 65535, 65536, 65537, 65540} {
		want := xctr.Block(k, start, uint64(i))
		if got := stream[16*(i-1) : 16*i]; !bytes.Equal(got, want[:]) {
			t.Errorf("P13.1: the stream's block %d: %x, not %x", i, got, want)
		}
	}
	last := xctr.Block(k, start, 65541)
	if got := stream[16*65540:]; !bytes.Equal(got, last[:3]) {
		t.Errorf("P13.1: the stream's end: %x, not %x", got, last[:3])
	}
}

func TestAKeyThatIsNil(t *testing.T) {
	for _, start := range starts() {
		for _, i := range numbers() {
			if got := xctr.Block(nil, start, i); got != [16]byte{} {
				t.Errorf("P13.1, R1: the block %d of nil: %x", i, got)
			}
		}
		for _, b := range [][]byte{nil, {}, {1}, make([]byte, 16), varied(12, 100)} {
			if got, e := xctr.Crypt(nil, start, b); len(got) != 0 || e != api.ErrKey {
				t.Errorf("P13.1, R2: Crypt of %d bytes by nil: %x, error %d", len(b), got, e)
			}
		}
	}
}

func TestNoBytes(t *testing.T) {
	k := expand(t, varied(13, 16))
	for _, b := range [][]byte{nil, {}, varied(14, 20)[:0]} {
		if got, e := xctr.Crypt(k, [16]byte{1}, b); len(got) != 0 || e != api.OK {
			t.Errorf("P13.1, R3: no bytes: %x, error %d", got, e)
		}
	}
}

func TestTwiceIsWhatItWas(t *testing.T) {
	for _, size := range []int{16, 24, 32} {
		k := expand(t, varied(15, size))
		for _, start := range starts() {
			for _, n := range []int{0, 1, 15, 16, 17, 255, 256, 257, 1000} {
				for _, b := range contents(16, n) {
					once := crypt(t, k, start, b)
					if !bytes.Equal(crypt(t, k, start, once), b) {
						t.Errorf("P13.2: %d bytes, twice, are not what they were", n)
					}
					if n > 15 && bytes.Equal(once, b) {
						t.Errorf("P13.1: %d bytes are not changed", n)
					}
				}
			}
		}
	}
}

func TestALongerStreamBeginsAsAShorterOne(t *testing.T) {
	k, start, b := expand(t, varied(17, 24)), [16]byte(varied(18, 16)), varied(19, 300)
	long := crypt(t, k, start, b)
	for n := range 301 {
		if !bytes.Equal(crypt(t, k, start, b[:n]), long[:n]) {
			t.Errorf("P13.2: %d bytes are not as 300 begin", n)
		}
	}
}

func TestWhatIsHandedInIsNeitherChangedNorKept(t *testing.T) {
	k := expand(t, varied(20, 16))
	for _, n := range []int{0, 1, 15, 16, 17, 32, 100} {
		// With room to spare behind the end.
		b, start := varied(21, 120), [16]byte(varied(22, 16))
		one := crypt(t, k, start, b[:n])
		two := crypt(t, k, start, b[:n])
		if !bytes.Equal(b, varied(21, 120)) || start != [16]byte(varied(22, 16)) {
			t.Errorf("R4: %d bytes, or what is behind them, were changed", n)
		}
		if !bytes.Equal(one, two) {
			t.Errorf("R5: %d bytes: two calls answer two things", n)
		}
		clear(two[:cap(two)])
		if !bytes.Equal(b, varied(21, 120)) || !bytes.Equal(one, crypt(t, k, start, b[:n])) {
			t.Errorf("R4: %d bytes: what was handed out is shared", n)
		}
		kept := bytes.Clone(one)
		clear(b)
		if !bytes.Equal(one, kept) {
			t.Errorf("R4: %d bytes were kept", n)
		}
		if _, e := xctr.Crypt(nil, start, b[:n]); e != api.ErrKey || !bytes.Equal(b, make([]byte, 120)) {
			t.Errorf("R4: %d bytes by no key were changed", n)
		}
	}
	same := expand(t, varied(20, 16))
	for i := range k.Rounds() + 1 {
		if k.At(i) != same.At(i) {
			t.Errorf("R4: the round key %d was changed", i)
		}
	}
}
