package aes_test

import (
	"bytes"
	"encoding/hex"
	"math"
	"testing"

	"wringer/aes"
	"wringer/api"
	"wringer/gf"
	"wringer/turn"
)

// lengths are those that keys may have.
var lengths = []int{16, 24, 32}

func tables() *turn.Tables { return turn.New(gf.Make()) }

func read(t *testing.T, s string) []byte {
	t.Helper()
	b, err := hex.DecodeString(s)
	if err != nil {
		t.Fatal(err)
	}
	return b
}

func readBlock(t *testing.T, s string) [16]byte {
	t.Helper()
	return [16]byte(read(t, s))
}

func expand(t *testing.T, key []byte) *aes.Key {
	t.Helper()
	k, e := aes.Expand(tables(), key)
	if k == nil || e != api.OK {
		t.Fatalf("P4.1: a key of %d bytes: %d", len(key), e)
	}
	return k
}

// stirred are n bytes that hang on a number.
func stirred(seed uint32, n int) []byte {
	b := make([]byte, n)
	for i := range b {
		seed = seed*1664525 + 1013904223
		b[i] = byte(seed >> 24)
	}
	return b
}

// words are those of a key, made as the chapter words it, with each one from the key's beginning.
func words(key []byte) [][]byte {
	boxes, n := gf.Make(), len(key)/4
	var all [][]byte
	for i := 0; i < 4*(n+7); i++ {
		if i < n {
			all = append(all, key[4*i:4*i+4])
			continue
		}
		word := bytes.Clone(all[i-1])
		if i%n == 0 {
			word = append(word[1:], word[0])
		}
		if i%n == 0 || n == 8 && i%8 == 4 {
			for j := range word {
				word[j] = boxes.To(word[j])
			}
		}
		if i%n == 0 {
			word[0] ^= gf.Power(2, i/n-1)
		}
		for j := range word {
			word[j] ^= all[i-n][j]
		}
		all = append(all, word)
	}
	return all
}

func roundKeys(key []byte) [][16]byte {
	var keys [][16]byte
	all := words(key)
	for i := 0; i < len(all); i += 4 {
		keys = append(keys, [16]byte(bytes.Join(all[i:i+4], nil)))
	}
	return keys
}

// encipher goes round by round.
func encipher(key []byte, b [16]byte) [16]byte {
	x, keys := tables(), roundKeys(key)
	for i := range b {
		b[i] ^= keys[0][i]
	}
	for _, k := range keys[1 : len(keys)-1] {
		b = x.Round(b, k)
	}
	return x.Last(b, keys[len(keys)-1])
}

// TestPublished holds keys and blocks against those of FIPS 197 and of SP 800-38A.
func TestPublished(t *testing.T) {
	for _, c := range []struct{ key, plain, text string }{
		{"000102030405060708090a0b0c0d0e0f", "00112233445566778899aabbccddeeff", "69c4e0d86a7b0430d8cdb78070b4c55a"},
		{"000102030405060708090a0b0c0d0e0f1011121314151617", "00112233445566778899aabbccddeeff", "dda97ca4864cdfe06eaf70a0ec0d7191"},
		{"000102030405060708090a0b0c0d0e0f101112131415161718191a1b1c1d1e1f", "00112233445566778899aabbccddeeff", "8ea2b7ca516745bfeafc49904b496089"},
		{"00000000000000000000000000000000", "00000000000000000000000000000000", "66e94bd4ef8a2c3b884cfa59ca342b2e"},
		{"2b7e151628aed2a6abf7158809cf4f3c", "3243f6a8885a308d313198a2e0370734", "3925841d02dc09fbdc118597196a0b32"},
		{"2b7e151628aed2a6abf7158809cf4f3c", "6bc1bee22e409f96e93d7e117393172a", "3ad77bb40d7a3660a89ecaf32466ef97"},
		{"8e73b0f7da0e6452c810f32b809079e562f8ead2522c6b7b", "6bc1bee22e409f96e93d7e117393172a", "bd334f1d6e45f25ff712a214571fa5cc"},
		{"603deb1015ca71be2b73aef0857d77811f352c073b6108d72d9810a30914dff4", "6bc1bee22e409f96e93d7e117393172a", "f3eed1bdb5d2a03c064b5a7e3db181f8"},
	} {
		k := expand(t, read(t, c.key))
		if got := k.Encrypt(readBlock(t, c.plain)); got != readBlock(t, c.text) {
			t.Errorf("P4.1: %s with %s is enciphered to %x", c.plain, c.key, got)
		}
		if got := k.Decrypt(readBlock(t, c.text)); got != readBlock(t, c.plain) {
			t.Errorf("P4.1: %s with %s is deciphered to %x", c.text, c.key, got)
		}
	}
}

// TestPublishedRoundKeys holds the last round keys against those of FIPS 197's appendix A.
func TestPublishedRoundKeys(t *testing.T) {
	for _, c := range []struct {
		key    string
		rounds int
		last   string
	}{
		{"2b7e151628aed2a6abf7158809cf4f3c", 10, "d014f9a8c9ee2589e13f0cc8b6630ca6"},
		{"8e73b0f7da0e6452c810f32b809079e562f8ead2522c6b7b", 12, "e98ba06f448c773c8ecc720401002202"},
		{"603deb1015ca71be2b73aef0857d77811f352c073b6108d72d9810a30914dff4", 14, "fe4890d1e6188d0b046df344706c631e"},
	} {
		k := expand(t, read(t, c.key))
		if k.Rounds() != c.rounds {
			t.Errorf("P4.1: %s has %d rounds", c.key, k.Rounds())
		}
		if got := k.At(c.rounds); got != readBlock(t, c.last) {
			t.Errorf("P4.1: the last round key of %s is %x", c.key, got)
		}
	}
}

func TestRoundKeysOfManyKeys(t *testing.T) {
	for _, n := range lengths {
		for seed := range uint32(50) {
			key := stirred(seed, n)
			k, want := expand(t, key), roundKeys(key)
			if k.Rounds() != n/4+6 || len(want) != k.Rounds()+1 {
				t.Fatalf("P4.1: a key of %d bytes has %d rounds", n, k.Rounds())
			}
			for i := range want {
				if k.At(i) != want[i] {
					t.Fatalf("P4.1: the round key %d of %x is %x, not %x", i, key, k.At(i), want[i])
				}
			}
		}
	}
}

func TestRoundKeysThatThereAreNot(t *testing.T) {
	for _, n := range lengths {
		k := expand(t, bytes.Repeat([]byte{0xa5}, n))
		rounds := k.Rounds()
		for _, i := range []int{-1, -2, -15, -16, math.MinInt, rounds + 1, rounds + 2, 15, 16, 59, 60, 255, 256, math.MaxInt} {
			if k.At(i) != [16]byte{} {
				t.Errorf("P4.1: a key of %d bytes has the round key %d", n, i)
			}
		}
		if k.At(0) == [16]byte{} || k.At(rounds) == [16]byte{} {
			t.Errorf("P4.1: a key of %d bytes has not its first or its last round key", n)
		}
	}
}

func TestKeysOfOtherLengths(t *testing.T) {
	x := tables()
	for n := range 300 {
		k, e := aes.Expand(x, make([]byte, n))
		if n == 16 || n == 24 || n == 32 {
			if k == nil || e != api.OK {
				t.Errorf("P4.1: a key of %d bytes: %d", n, e)
			}
		} else if k != nil || e != api.ErrKey {
			t.Errorf("P4.1: a key of %d bytes: %d", n, e)
		}
	}
	for _, none := range [][]byte{nil, {}, make([]byte, 0, 16), make([]byte, 15, 32)} {
		if k, e := aes.Expand(x, none); k != nil || e != api.ErrKey {
			t.Errorf("P4.1, R3: no key: %d", e)
		}
	}
}

func TestTablesThatAreNil(t *testing.T) {
	for _, n := range []int{0, 1, 15, 16, 17, 24, 32, 33} {
		if k, e := aes.Expand(nil, make([]byte, n)); k != nil || e != api.ErrTable {
			t.Errorf("P4.1, R2: no tables, and a key of %d bytes: %d", n, e)
		}
	}
	if k, e := aes.Expand(turn.New(nil), nil); k != nil || e != api.ErrTable {
		t.Errorf("P4.1, R2: no tables, and no key: %d", e)
	}
}

func TestKeyThatIsNil(t *testing.T) {
	var k *aes.Key
	b := [16]byte(stirred(1, 16))
	if k.Rounds() != 0 || k.Encrypt(b) != [16]byte{} || k.Decrypt(b) != [16]byte{} {
		t.Error("P4.1: a key that is nil")
	}
	for _, i := range []int{math.MinInt, -1, 0, 1, 10, 14, math.MaxInt} {
		if k.At(i) != [16]byte{} {
			t.Errorf("P4.1: a key that is nil has the round key %d", i)
		}
	}
}

func TestBlocksRoundByRound(t *testing.T) {
	for _, n := range lengths {
		for seed := range uint32(20) {
			key, b := stirred(seed, n), [16]byte(stirred(seed+100, 16))
			k := expand(t, key)
			want := encipher(key, b)
			if got := k.Encrypt(b); got != want {
				t.Errorf("P4.1: %x with %x is enciphered to %x", b, key, got)
			}
			if got := k.Decrypt(want); got != b {
				t.Errorf("P4.1: %x with %x is deciphered to %x", want, key, got)
			}
		}
	}
}

func TestThereAndBack(t *testing.T) {
	for _, n := range lengths {
		k := expand(t, stirred(uint32(n), n))
		seen := map[[16]byte][16]byte{}
		for seed := range uint32(2000) {
			b := [16]byte(stirred(seed, 16))
			text := k.Encrypt(b)
			if k.Decrypt(text) != b || k.Encrypt(k.Decrypt(b)) != b {
				t.Fatalf("P4.2: %x, there and back, with a key of %d bytes", b, n)
			}
			if other, ok := seen[text]; ok && other != b {
				t.Fatalf("P4.2: %x and %x are enciphered to one", b, other)
			}
			seen[text] = b
		}
	}
}

func TestBlocksOfOneByteThatIsAnother(t *testing.T) {
	for _, n := range lengths {
		k := expand(t, stirred(uint32(n)+5, n))
		seen := map[[16]byte]bool{}
		for place := range 16 {
			for a := 1; a < 256; a++ {
				var b [16]byte
				b[place] = byte(a)
				text := k.Encrypt(b)
				if seen[text] || k.Decrypt(text) != b {
					t.Fatalf("P4.2: %x with a key of %d bytes", b, n)
				}
				seen[text] = true
			}
		}
	}
}

func TestKeysAreNeitherChangedNorKept(t *testing.T) {
	for _, n := range lengths {
		whole := stirred(9, 48)
		k := expand(t, whole[:n])
		if !bytes.Equal(whole, stirred(9, 48)) {
			t.Errorf("R4: a key of %d bytes, or what is behind it, was changed", n)
		}
		clear(whole)
		b := [16]byte(stirred(10, 16))
		if k.Encrypt(b) != encipher(stirred(9, n), b) || k.At(0) != [16]byte(stirred(9, 16)) {
			t.Errorf("R4: a key of %d bytes was kept", n)
		}
	}
}

func TestEncipheringChangesNothing(t *testing.T) {
	x := tables()
	one, e := aes.Expand(x, stirred(3, 24))
	if e != api.OK {
		t.Fatal(e)
	}
	b := [16]byte(stirred(4, 16))
	text := one.Encrypt(b)
	key := one.At(5)
	key[0] ^= 1
	if one.At(5) == key {
		t.Error("R4: a round key that was handed out is not new")
	}
	one.Decrypt(b)
	two, _ := aes.Expand(x, stirred(3, 32))
	two.Encrypt(b)
	if b != [16]byte(stirred(4, 16)) || one.Encrypt(b) != text || *x != *tables() {
		t.Error("R4, R5: the block, the key or the tables were changed")
	}
}
