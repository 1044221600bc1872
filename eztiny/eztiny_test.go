package eztiny_test

import (
	"bytes"
	"encoding/binary"
	"encoding/hex"
	"math"
	"math/big"
	"math/bits"
	"slices"
	"testing"

	"wringer/api"
	"wringer/ezhash"
	"wringer/ezkey"
	"wringer/eztiny"
	"wringer/gf"
	"wringer/turn"
)

// The tests reckon halves as numbers of any length, and take E from layer 15 and hashes from layer 16; some known answers come from elsewhere.

func plus(rows ...[]byte) [16]byte {
	var out [16]byte
	for _, row := range rows {
		for i := range row {
			out[i] ^= row[i]
		}
	}
	return out
}

// highest is a number in 16 bytes, the highest byte first.
func highest(n int) []byte {
	return binary.BigEndian.AppendUint64(make([]byte, 8), uint64(n))
}

// number is that of half bytes, of which the lowest four bits count.
func number(half []byte) *big.Int {
	out := new(big.Int)
	for _, b := range half {
		out.Add(out.Lsh(out, 4), big.NewInt(int64(b%16)))
	}
	return out
}

// step is what a half of n half bytes brings, as the chapter says it.
func step(k *ezkey.Keys, h [16]byte, i, j, n int, half *big.Int) *big.Int {
	block := new(big.Int).Lsh(half, 4)
	block.Add(block, big.NewInt(8))
	block.Lsh(block, uint(4*(31-n)))
	x := k.E(0, i, plus(block.FillBytes(make([]byte, 16)), h[:], highest(j)))
	return new(big.Int).Rsh(new(big.Int).SetBytes(x[:]), uint(4*(32-n)))
}

// flipped is a message, of any length that may be, behind the flip.
func flipped(k *ezkey.Keys, h [16]byte, m []byte) []byte {
	out := bytes.Clone(m)
	if len(m) > 15 {
		return out
	}
	block := plus(m)
	block[0] = block[0]%128 + 128
	block = k.E(0, 3, plus(block[:], h[:]))
	if block[0] >= 128 {
		out[0] += 128
	}
	return out
}

// rounds are those of 1 to 31 bytes.
var rounds = []int{24, 16, 10, 10, 10, 10, 10, 10, 10, 10, 10, 10, 10, 10, 10, 8, 8, 8, 8, 8, 8, 8, 8, 8, 8, 8, 8, 8, 8, 8, 8}

// enciphered is a message's, as the chapter says it.
func enciphered(k *ezkey.Keys, row [][]byte, m []byte) []byte {
	n, i := len(m), 7
	if n >= 16 {
		i = 6
	}
	h := ezhash.Hash(k, row)
	right := new(big.Int).SetBytes(m)
	left := new(big.Int).Rsh(right, uint(4*n))
	right.Sub(right, new(big.Int).Lsh(left, uint(4*n)))
	for j := range rounds[n-1] {
		other := new(big.Int).Xor(left, step(k, h, i, j, n, right))
		left, right = right, other
	}
	whole := new(big.Int).Lsh(right, uint(4*n))
	return flipped(k, h, whole.Add(whole, left).FillBytes(make([]byte, n)))
}

// varied are n bytes that hang on a number.
func varied(seed uint32, n int) []byte {
	b := make([]byte, n)
	for i := range b {
		seed = seed*1664525 + 1013904223
		b[i] = byte(seed >> 24)
	}
	return b
}

// rising are 0 1 2 .. , n bytes.
func rising(n int) []byte {
	b := make([]byte, n)
	for i := range b {
		b[i] = byte(i)
	}
	return b
}

// contents are n noughts, n of the greatest bytes, and n of any.
func contents(seed uint32, n int) [][]byte {
	return [][]byte{make([]byte, n), bytes.Repeat([]byte{255}, n), varied(seed, n), rising(n)}
}

// rows are of no strings, of one, and of many, some of them empty.
func rows() [][][]byte {
	return [][][]byte{
		nil, {nil}, {nil, nil}, {{0}}, {{128}}, {rising(15)}, {rising(16)}, {rising(17)},
		{nil, rising(16)}, {rising(16), nil}, {rising(5), nil, rising(400)}, make([][]byte, 50),
	}
}

func unhex(t *testing.T, text string) []byte {
	t.Helper()
	b, err := hex.DecodeString(text)
	if err != nil {
		t.Fatal(err)
	}
	return b
}

func keysOf(t *testing.T, key []byte) *ezkey.Keys {
	t.Helper()
	k, e := ezkey.Extract(turn.New(gf.Make()), key)
	if e != api.OK {
		t.Fatalf("Extract of %d bytes: error %d", len(key), e)
	}
	return k
}

func turned(t *testing.T, k *ezkey.Keys, row [][]byte, m []byte, back bool) []byte {
	t.Helper()
	out, e := eztiny.Turn(k, row, m, back)
	if e != api.OK || len(out) != len(m) {
		t.Fatalf("P19.2: Turn of %d bytes, back %v: %d bytes, error %d", len(m), back, len(out), e)
	}
	return out
}

// both holds a message and its text against each other, either way.
func both(t *testing.T, k *ezkey.Keys, row [][]byte, m, text []byte) {
	t.Helper()
	if got := turned(t, k, row, m, false); !bytes.Equal(got, text) {
		t.Errorf("P19.2: %x, with %d strings, is enciphered to %x, not to %x", m, len(row), got, text)
	}
	if got := turned(t, k, row, text, true); !bytes.Equal(got, m) {
		t.Errorf("P19.2: %x, with %d strings, is deciphered to %x, not to %x", text, len(row), got, m)
	}
}

// below are numbers that are too low.
var below = []int{math.MinInt, math.MinInt + 1, -1<<32 + 1, -1 << 32, -256, -31, -16, -2, -1}

func TestRounds(t *testing.T) {
	for n, want := range rounds {
		if got := eztiny.Rounds(n + 1); got != want {
			t.Errorf("P19.1: Rounds of %d: %d, not %d", n+1, got, want)
		}
	}
	for _, n := range append([]int{0, 32, 33, 64, 256, 257, 1 << 32, 1<<32 + 1, 1<<32 + 16, math.MaxInt - 1, math.MaxInt}, below...) {
		if got := eztiny.Rounds(n); got != 0 {
			t.Errorf("P19.1: Rounds of %d: %d", n, got)
		}
	}
}

// numbers are such as i and j may be; both are counted in other bytes than their lowest, too.
var numbers = []int{0, 1, 2, 3, 6, 7, 8, 9, 23, 24, 255, 256, 65536, 1<<24 + 5, 1 << 32, 1<<40 + 7, 1 << 62, math.MaxInt}

func TestSteps(t *testing.T) {
	for _, key := range [][]byte{varied(1, 48), varied(2, 9)} {
		k := keysOf(t, key)
		for n := range 32 {
			for at, half := range contents(uint32(n), n) {
				h := [16]byte(varied(uint32(at), 16))
				for _, i := range []int{0, 3, 6, 7, 8, 1 << 40} {
					for _, j := range numbers {
						got := eztiny.Step(k, h, i, j, half)
						if len(got) != n || number(got).Cmp(step(k, h, i, j, n, number(half))) != 0 {
							t.Fatalf("P19.1: Step of %d, %d and %x: %x", i, j, half, got)
						}
						// In each byte stands one half byte, and none above it.
						if n > 0 && slices.Max(got) > 15 {
							t.Fatalf("P19.1: Step of %d, %d and %x: %x", i, j, half, got)
						}
					}
				}
			}
		}
	}
}

// TestStepsByHand writes the blocks out, with E alone.
func TestStepsByHand(t *testing.T) {
	k := keysOf(t, []byte("some key"))
	h := [16]byte(varied(3, 16))
	for _, c := range []struct {
		i, j  int
		half  []byte
		block [16]byte
	}{
		{7, 0, []byte{0}, [16]byte{0x08}},
		{7, 0, []byte{1}, [16]byte{0x18}},
		{7, 0, []byte{15}, [16]byte{0xf8}},
		{7, 9, []byte{1}, [16]byte{0: 0x18, 15: 9}},
		{7, 0x0102030405060708, []byte{1}, [16]byte{0: 0x18, 8: 1, 9: 2, 10: 3, 11: 4, 12: 5, 13: 6, 14: 7, 15: 8}},
		{7, 5, []byte{1, 2}, [16]byte{0: 0x12, 1: 0x80, 15: 5}},
		{0, 1, []byte{1, 2, 3}, [16]byte{0: 0x12, 1: 0x38, 15: 1}},
		{6, 7, []byte{0xf1, 0x82, 0x43, 0x24}, [16]byte{0: 0x12, 1: 0x34, 2: 0x80, 15: 7}},
		{6, 0, make([]byte, 30), [16]byte{15: 0x80}},
		{6, 3, make([]byte, 30), [16]byte{15: 0x83}},
		{6, 0, make([]byte, 31), [16]byte{15: 8}},
		// The number and the half share bits then.
		{6, 9, append(make([]byte, 30), 5), [16]byte{15: 0x58 ^ 9}},
		{6, 0x3ff, append(make([]byte, 28), 1, 2, 3), [16]byte{14: 0x12 ^ 3, 15: 0x38 ^ 0xff}},
	} {
		x := k.E(0, c.i, plus(c.block[:], h[:]))
		if got, want := eztiny.Step(k, h, c.i, c.j, c.half), hex.EncodeToString(x[:]); len(got) != len(c.half) || number(got).Cmp(number(unhexed(want[:len(got)]))) != 0 {
			t.Errorf("P19.1: Step of %d, %d and %x: %x, not %s", c.i, c.j, c.half, got, want)
		}
	}
}

// unhexed are the half bytes that a text's figures are.
func unhexed(text string) []byte {
	out := make([]byte, len(text))
	for i := range out {
		n, _ := new(big.Int).SetString(text[i:i+1], 16)
		out[i] = byte(n.Int64())
	}
	return out
}

func TestOfAHalfsBytesFourBitsCount(t *testing.T) {
	k, h := keysOf(t, varied(4, 48)), [16]byte(varied(5, 16))
	for n := range 32 {
		half := varied(6, n)
		low := bytes.Clone(half)
		for i := range low {
			low[i] %= 16
		}
		for high := range byte(16) {
			for i := range half {
				half[i] = low[i] + high*16
			}
			if got := eztiny.Step(k, h, 6, 1, half); !bytes.Equal(got, eztiny.Step(k, h, 6, 1, low)) {
				t.Errorf("P19.1: Step of %x: %x", half, got)
			}
		}
	}
}

func TestNoSteps(t *testing.T) {
	k, h := keysOf(t, varied(7, 48)), [16]byte{1}
	for n := range 40 {
		if got := eztiny.Step(nil, h, 6, 1, make([]byte, n)); len(got) != 0 {
			t.Errorf("P19.1: Step of nil, of %d half bytes: %x", n, got)
		}
		for _, low := range below {
			if got := eztiny.Step(k, h, low, 1, make([]byte, n)); len(got) != 0 {
				t.Errorf("P19.1: Step of %d, 1 and %d half bytes: %x", low, n, got)
			}
			if got := eztiny.Step(k, h, 1, low, make([]byte, n)); len(got) != 0 {
				t.Errorf("P19.1: Step of 1, %d and %d half bytes: %x", low, n, got)
			}
			if got := eztiny.Step(k, h, low, low, make([]byte, n)); len(got) != 0 {
				t.Errorf("P19.1: Step of %d, %d and %d half bytes: %x", low, low, n, got)
			}
		}
	}
	for _, n := range []int{32, 33, 34, 62, 63, 64, 255, 256, 257, 256 + 31, 65536 + 5, 1 << 20} {
		if got := eztiny.Step(k, h, 6, 1, make([]byte, n)); len(got) != 0 {
			t.Errorf("P19.1: Step of %d half bytes: %x", n, got)
		}
	}
	for _, half := range [][]byte{nil, {}, make([]byte, 0, 40)} {
		if got := eztiny.Step(k, h, 6, 1, half); len(got) != 0 {
			t.Errorf("P19.1, R3: Step of no half bytes: %x", got)
		}
	}
}

func TestFlips(t *testing.T) {
	for _, key := range [][]byte{varied(8, 48), varied(9, 100)} {
		k := keysOf(t, key)
		stays, turns := 0, 0
		for n := 1; n < 16; n++ {
			for seed := range uint32(40) {
				h := [16]byte(varied(seed, 16))
				for _, m := range contents(seed+1, n) {
					got := eztiny.Flip(k, h, m)
					if !bytes.Equal(got, flipped(k, h, m)) {
						t.Fatalf("P19.1: Flip of %x: %x", m, got)
					}
					if bytes.Equal(got, m) {
						stays++
					} else {
						turns++
					}
				}
			}
		}
		if stays < 1000 || turns < 1000 {
			t.Errorf("P19.1: of %d messages %d stay", stays+turns, stays)
		}
	}
}

// TestFlipsByHand writes the blocks out, with E alone.
func TestFlipsByHand(t *testing.T) {
	k := keysOf(t, []byte("some key"))
	for seed := range uint32(20) {
		h := [16]byte(varied(seed, 16))
		for _, c := range []struct {
			m     []byte
			block [16]byte
		}{
			{[]byte{0}, [16]byte{128}},
			{[]byte{128}, [16]byte{128}},
			{[]byte{5}, [16]byte{133}},
			{[]byte{255}, [16]byte{255}},
			{[]byte{127, 1}, [16]byte{255, 1}},
			{append(make([]byte, 14), 9), [16]byte{0: 128, 14: 9}},
		} {
			x := k.E(0, 3, plus(c.block[:], h[:]))
			want := bytes.Clone(c.m)
			want[0] ^= x[0] / 128 * 128
			if got := eztiny.Flip(k, h, c.m); !bytes.Equal(got, want) {
				t.Errorf("P19.1: Flip of %x: %x, not %x", c.m, got, want)
			}
		}
	}
}

func TestWhatIsNotFlipped(t *testing.T) {
	k := keysOf(t, varied(10, 48))
	for seed := range uint32(20) {
		h := [16]byte(varied(seed, 16))
		for _, n := range []int{0, 16, 17, 31, 32, 33, 255, 256, 257, 1000, 65536 + 3} {
			for _, m := range contents(11, n) {
				if got := eztiny.Flip(k, h, m); !bytes.Equal(got, m) {
					t.Errorf("P19.1: Flip of %d bytes is another message", n)
				}
			}
		}
		if len(eztiny.Flip(k, h, nil)) != 0 || len(eztiny.Flip(k, h, make([]byte, 0, 20))) != 0 {
			t.Error("P19.1, R3: Flip of no bytes")
		}
		for n := range 40 {
			if got := eztiny.Flip(nil, h, varied(12, n)); len(got) != 0 {
				t.Errorf("P19.1: Flip of nil, of %d bytes: %x", n, got)
			}
		}
	}
}

func TestFlippedTwiceItIsWhatItWas(t *testing.T) {
	k := keysOf(t, varied(13, 48))
	for seed := range uint32(50) {
		h := [16]byte(varied(seed, 16))
		for n := range 40 {
			for _, m := range contents(seed+1, n) {
				if got := eztiny.Flip(k, h, eztiny.Flip(k, h, m)); !bytes.Equal(got, m) {
					t.Fatalf("P19.3: %x, flipped twice, is %x", m, got)
				}
			}
		}
	}
}

func TestMessagesOfAllLengths(t *testing.T) {
	for _, key := range [][]byte{varied(14, 48), varied(15, 1), bytes.Repeat([]byte{255}, 128)} {
		k := keysOf(t, key)
		for n := 1; n < 32; n++ {
			for _, row := range rows() {
				for _, m := range contents(16, n) {
					both(t, k, row, m, enciphered(k, row, m))
				}
			}
		}
	}
}

// TestPublished holds two messages against what another program's AEZ makes of them: the seeds in the tests of aezeed (of the module github.com/lightningnetwork/lnd). Each has 19 bytes and four noughts, and a row of three strings: how many bits these noughts are, an empty nonce, and a version with a salt. The keys are scrypt's, with the parameters of those tests, of their passwords and the salt.
func TestPublished(t *testing.T) {
	for _, c := range []struct{ key, plain, text string }{
		{"73a7eadcffcd7cc7e98c437686b1fef19e4ccfeaed67a89b0ab0cf22e6a59040", "00000081b637d86359e6960de795e41e0b4cfd00000000", "304b9e6aa12884a7a9ae0abc263fcbe543c58c3cd0890e"},
		{"d3cff3f69d91514703c5446d2140ab31853c75cca2ae1eb02499aef50b35da5a", "000d2581b637d86359e6960de795e41e0b4cfd00000000", "5cff599a8e7257cd0708abd3b1ac94aa6372edc3fac968"},
	} {
		row := [][]byte{append(make([]byte, 15), 32), nil, []byte("\x00salt1")}
		both(t, keysOf(t, unhex(t, c.key)), row, unhex(t, c.plain), unhex(t, c.text))
	}
}

// TestKnown holds the messages 0 1 2 .. of 1 to 31 bytes, enciphered and deciphered, against a program in another language that was written for it, by its library's BLAKE2b. The same program tells what is published.
func TestKnown(t *testing.T) {
	k, row := keysOf(t, []byte("a key")), [][]byte{[]byte("abc"), nil}
	for at, c := range []struct{ there, back string }{
		{"91", "0d"},
		{"b901", "3ff9"},
		{"4ddfee", "51138c"},
		{"77a8766d", "35fbf1f9"},
		{"72a99506f8", "d5137ec09f"},
		{"28bfaa7c5739", "a0265c7e8830"},
		{"d95fe924b28f98", "33e588f47de69b"},
		{"759a596249110006", "b7f995c5c3b6b7cf"},
		{"f563b47ec53a1e9038", "43737ec0be3a420a81"},
		{"49605635fe31ce9b4399", "0932238fd62eefcc9c4f"},
		{"059a62a1bdd7ad24bea98c", "73ec74dd0325b4403c9d47"},
		{"4cb600e41b70a8ea07a8c8f7", "6ca0cd4c57eec6d846a009f0"},
		{"e0447fc99918f3e771d6982a9c", "93b7103a434de4578ad63a3d71"},
		{"4db6ed41f3bebfa812184caa1f90", "46599bf965ca284d31f96ba4f603"},
		{"ed7a3602b3455386272832934681ee", "374a29d4b6652c8700c83c49c76834"},
		{"5269e3c6f6f6bc052df0bec6e044a4df", "c1bf7ee349ac7e94a4cd5a5b7a1e5ea7"},
		{"080b3011b21cf233b761a60b19d6d4daf3", "29a24773ba4e5567fc1a98b9beffbc80d4"},
		{"3f82b6520123bcb10e4705a9f4c8d7685a71", "22e910d820b86ec7869f3600dccc2a728e6f"},
		{"6f22d24c35f2900c7394473d0c8c7806c11871", "8b8c9391a475080339f2c120e825091d730fee"},
		{"51842128786245d8f10a865dee94095543e8e8a2", "05146085ec0b679a4be6ce3abfa93d8853fb5f00"},
		{"87ebd4bec6f7991e63769269a6aca3bdf95ebee5a1", "dd2dee56ba245131b3e0b4d50e114c081fce1d4085"},
		{"7a4627cf58aa8d1a2c3d9897b471d5b52bf4bf905862", "c5c2e1ef0b85170bd4eed2f88e4c5c5c47db1080e1de"},
		{"7eaf4bf91daf7f6e8c92e85922b646f6726cc8adb5d478", "879f9c6b2c404da200a4de655e9f9c46e0eeaba60ca266"},
		{"d1bae32a9d890a11a3e5d3515d3f9d2a7ce9c716667d4869", "c0a0aa348c6a1d275a6a7d7fc1d472441f1984f6bdfb5e8e"},
		{"539bc0ce5afc064987c4f87229e0c5998b590e66422b270ee4", "d5b42c39b441125c97f2163348c41ff84ca3da36fc8412a00d"},
		{"2e83c025ed7f8e355420b6969f61f4ba722efebf4f4171b94b5e", "786b570db29687f3f75f02c4cde1c2547d1e785a951a5fe0d4b6"},
		{"bd4a38e72084a8ab046c903e31eed8514ceb05520a639e2352fc68", "678ff2d9cddca1e4246836906a17c6b0ec48a0517f363a80cbaa1d"},
		{"d792631cec49e945bd5e24e6c161754f16cf5e14597df7df9308ae2c", "7cadf45bbfbd4f028d8fea128593e36ab681f82971c70990a604832e"},
		{"7918e1fa268049d917ed36c9008d49655a33ce85cce7fc2cfa55786e2f", "70ffdb8196b35ff89696404e56cce200e5a4341433414e7872727d804c"},
		{"38d5571609e06f79cc6a9f3e349c47aeec2e9912961d14f71af6412496aa", "fdf4c763d7b072b4a4ac3565684afa7670e838dbc319d340c602ca21b708"},
		{"bf191529d8ce3df17248c315ffec19cb44e5ecd0dd59c99e6021a7e1c6f7be", "ea02b5709644ef5bfab55ea3f56522a941b54fffcdae2ca3ab1dbc7335751d"},
	} {
		m := rising(at + 1)
		both(t, k, row, m, unhex(t, c.there))
		both(t, k, row, unhex(t, c.back), m)
	}
}

func TestWrongMessages(t *testing.T) {
	k := keysOf(t, varied(17, 48))
	for _, row := range rows() {
		for _, back := range []bool{false, true} {
			for _, m := range [][]byte{nil, {}, make([]byte, 0, 20)} {
				if out, e := eztiny.Turn(k, row, m, back); len(out) != 0 || e != api.ErrShort {
					t.Errorf("P19.2, R2, R3: Turn of no bytes, back %v: %x, error %d", back, out, e)
				}
			}
			for _, n := range []int{32, 33, 47, 48, 63, 64, 255, 256, 257, 256 + 31, 65536, 65536 + 20, 1 << 20} {
				if out, e := eztiny.Turn(k, row, make([]byte, n), back); len(out) != 0 || e != api.ErrLong {
					t.Errorf("P19.2, R2: Turn of %d bytes, back %v: %x, error %d", n, back, out, e)
				}
			}
		}
	}
}

func TestKeysThatAreNil(t *testing.T) {
	for _, row := range rows() {
		for _, back := range []bool{false, true} {
			for n := range 70 {
				// The key is asked for ahead of the message.
				if out, e := eztiny.Turn(nil, row, make([]byte, n), back); len(out) != 0 || e != api.ErrKey {
					t.Errorf("P19.2, R2: Turn of nil, of %d bytes, back %v: %x, error %d", n, back, out, e)
				}
			}
			if out, e := eztiny.Turn(nil, row, nil, back); len(out) != 0 || e != api.ErrKey {
				t.Errorf("P19.2, R2: Turn of nil, of nil, back %v: %x, error %d", back, out, e)
			}
		}
	}
}

func TestShortMessagesAreAllTold(t *testing.T) {
	k, row := keysOf(t, varied(18, 48)), [][]byte{[]byte("tweak")}
	for _, c := range []struct {
		n, many int
		back    bool
	}{
		{1, 256, false},
		{1, 256, true},
		// That no two of all of them come to one is enough, so that the way back is left out.
		{2, 65536, false},
	} {
		told := make([]bool, c.many)
		for at := range c.many {
			out := turned(t, k, row, highest(at)[16-c.n:], c.back)
			told[new(big.Int).SetBytes(out).Int64()] = true
		}
		if slices.Contains(told, false) {
			t.Errorf("P19.3: the messages of %d bytes, back %v, do not come to all", c.n, c.back)
		}
	}
}

func TestThereAndBackAndTheOtherWayRound(t *testing.T) {
	for seed := range uint32(20) {
		k, row := keysOf(t, varied(seed, int(seed)+1)), rows()[seed%12]
		for n := 1; n < 32; n++ {
			for _, m := range contents(seed+1, n) {
				if !bytes.Equal(turned(t, k, row, turned(t, k, row, m, false), true), m) {
					t.Fatalf("P19.3: %x, enciphered, is not deciphered to what it was", m)
				}
				if !bytes.Equal(turned(t, k, row, turned(t, k, row, m, true), false), m) {
					t.Fatalf("P19.3: %x, deciphered, is not enciphered to what it was", m)
				}
			}
		}
	}
}

func TestNoTwoMessagesHaveOneText(t *testing.T) {
	k, row := keysOf(t, varied(19, 48)), [][]byte{varied(20, 9)}
	for _, n := range []int{3, 4, 8, 15, 16, 17, 30, 31} {
		told, untold := map[string]bool{}, map[string]bool{}
		many := 0
		for at := range n {
			for by := range 256 {
				m := varied(21, n)
				if by == int(m[at]) && at > 0 {
					continue
				}
				m[at] = byte(by)
				told[string(turned(t, k, row, m, false))] = true
				untold[string(turned(t, k, row, m, true))] = true
				many++
			}
		}
		if len(told) != many || len(untold) != many {
			t.Errorf("P19.3: %d messages of %d bytes have %d texts, and are the texts of %d", many, n, len(told), len(untold))
		}
	}
}

// differing are how many bits of two rows of one length differ.
func differing(a, b []byte) int {
	many := 0
	for i := range a {
		many += bits.OnesCount8(a[i] ^ b[i])
	}
	return many
}

// TestEveryBitHangsOnEveryOther turns bits one by one: half of the bits should be others then, and fewer than a sixth of 128 bits or more can't be chance.
func TestEveryBitHangsOnEveryOther(t *testing.T) {
	for _, n := range []int{16, 17, 24, 30, 31} {
		key, tweak, m := varied(22, 40), varied(23, 20), varied(24, n)
		both := func() (there, back []byte) {
			k := keysOf(t, key)
			return turned(t, k, [][]byte{tweak}, m, false), turned(t, k, [][]byte{tweak}, m, true)
		}
		text, plain := both()
		for _, row := range [][]byte{key, tweak, m} {
			for bit := range 8 * len(row) {
				row[bit/8] ^= 1 << (bit % 8)
				there, back := both()
				if differing(text, there) < 8*n/6 || differing(plain, back) < 8*n/6 {
					t.Errorf("the bit %d of %d bytes turns %d and %d bits of %d bytes", bit, len(row), differing(text, there), differing(plain, back), n)
				}
				row[bit/8] ^= 1 << (bit % 8)
			}
		}
	}
}

func TestEveryRowHasItsTexts(t *testing.T) {
	k := keysOf(t, varied(25, 48))
	for _, n := range []int{8, 15, 16, 31} {
		told := map[string]bool{}
		for _, row := range rows() {
			told[string(turned(t, k, row, rising(n), false))] = true
		}
		if len(told) != len(rows()) {
			t.Errorf("P19.2: of %d bytes %d rows tell %d texts", n, len(rows()), len(told))
		}
		if !bytes.Equal(turned(t, k, nil, rising(n), false), turned(t, k, [][]byte{}, rising(n), false)) {
			t.Error("R3: the rows nil and of no strings")
		}
		if !bytes.Equal(turned(t, k, [][]byte{nil}, rising(n), false), turned(t, k, [][]byte{{}}, rising(n), false)) {
			t.Error("R3: the strings nil and of no bytes")
		}
	}
}

func TestStepsAndFlipsShareNothing(t *testing.T) {
	k, h := keysOf(t, varied(26, 48)), [16]byte(varied(27, 16))
	for name, call := range map[string]func(b []byte) []byte{
		"Step": func(b []byte) []byte { return eztiny.Step(k, h, 6, 3, b) },
		"Flip": func(b []byte) []byte { return eztiny.Flip(k, h, b) },
	} {
		for _, n := range []int{1, 2, 14, 15, 16, 17, 30, 31} {
			// With room to spare behind the end.
			b := varied(28, 60)
			one, two := call(b[:n]), call(b[:n])
			kept := bytes.Clone(one)
			if !bytes.Equal(b, varied(28, 60)) || !bytes.Equal(one, two) {
				t.Errorf("R4, R5: %s: %d bytes, or what is behind them, were changed, or two calls answer two things", name, n)
			}
			clear(two[:cap(two)])
			if !bytes.Equal(b, varied(28, 60)) || !bytes.Equal(one, kept) {
				t.Errorf("R4: %s of %d bytes: what was handed out is shared", name, n)
			}
			clear(b)
			if !bytes.Equal(one, kept) {
				t.Errorf("R4: %s: %d bytes were kept", name, n)
			}
		}
	}
}

func TestWhatIsHandedInIsNeitherChangedNorKept(t *testing.T) {
	k := keysOf(t, varied(29, 48))
	for n := 1; n < 32; n++ {
		for _, back := range []bool{false, true} {
			// With room to spare behind the ends, of the message, the strings, and the row.
			m, one, two := varied(30, 60), varied(31, 60), varied(32, 60)
			row := [][]byte{one[:n], two[:n/2], one[:3], two[:9]}
			first, second := turned(t, k, row[:2], m[:n], back), turned(t, k, row[:2], m[:n], back)
			if !bytes.Equal(m, varied(30, 60)) || !bytes.Equal(one, varied(31, 60)) || !bytes.Equal(two, varied(32, 60)) {
				t.Fatalf("R4: %d bytes, strings, or what is behind them, were changed", n)
			}
			if len(row[0]) != n || len(row[1]) != n/2 || len(row[2]) != 3 || len(row[3]) != 9 || &row[0][0] != &one[0] || &row[2][0] != &one[0] || &row[3][0] != &two[0] {
				t.Fatalf("R4: a row with %d bytes, or what is behind it, was changed", n)
			}
			// What stands behind the ends counts nowhere.
			alone := [][]byte{varied(31, n), varied(32, n/2)}
			want := turned(t, k, alone, varied(30, n), back)
			if !bytes.Equal(first, want) || !bytes.Equal(second, want) {
				t.Errorf("R5: %d bytes, back %v: what is behind them counts, or two calls answer two things", n, back)
			}
			clear(second[:cap(second)])
			if !bytes.Equal(m, varied(30, 60)) || !bytes.Equal(first, want) || !bytes.Equal(turned(t, k, alone, varied(30, n), back), want) {
				t.Errorf("R4: %d bytes, back %v: what was handed out is shared", n, back)
			}
			clear(m)
			clear(one)
			clear(two)
			if !bytes.Equal(first, want) {
				t.Errorf("R4: %d bytes, back %v, or strings, were kept", n, back)
			}
		}
	}
}
