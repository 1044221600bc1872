package chacha_test

import (
	"bytes"
	"encoding/binary"
	"encoding/hex"
	"math"
	"testing"

	"wringer/api"
	"wringer/chacha"
)

// some are the numbers of rounds that there are.
var some = []int{8, 12, 20}

// none are numbers of rounds that there are not.
var none = []int{
	math.MinInt, math.MinInt32, -1 << 32, -20, -12, -8, -2, -1, 0, 1, 2, 4, 6, 7, 9, 10, 11, 13, 14, 16, 18, 19, 21, 22, 24, 40, 256 + 8,
	1<<32 + 8, 1<<32 + 12, 1<<32 + 20, -1<<32 + 20, math.MaxInt32, math.MaxInt,
}

// lines are the places of the quarters, as the chapter lists them.
var lines = [8][4]int{
	{0, 4, 8, 12}, {1, 5, 9, 13}, {2, 6, 10, 14}, {3, 7, 11, 15},
	{0, 5, 10, 15}, {1, 6, 11, 12}, {2, 7, 8, 13}, {3, 4, 9, 14},
}

func read(t *testing.T, s string) []byte {
	t.Helper()
	b, err := hex.DecodeString(s)
	if err != nil {
		t.Fatal(err)
	}
	return b
}

// varied are n bytes that hang on a number.
func varied(seed uint32, n int) []byte {
	b := make([]byte, n)
	for i := range b {
		seed = seed*1664525 + 1013904223
		b[i] = byte(seed >> 24)
	}
	return b
}

// counted are the bytes from, from + 1 .. of a key.
func counted(from byte) [32]byte {
	var key [32]byte
	for i := range key {
		key[i] = from + byte(i)
	}
	return key
}

func stateOf(seed uint32) chacha.State {
	var s chacha.State
	for i := range s {
		s[i] = binary.LittleEndian.Uint32(varied(seed+uint32(i)*7919, 4))
	}
	return s
}

func turned(n uint32, by int) uint32 { return n<<by | n>>(32-by) }

// quarter goes by a list of steps: of each, which number is added to which, which is turned, and how far.
func quarter(q [4]uint32) [4]uint32 {
	for _, step := range [4][4]int{{0, 1, 3, 16}, {2, 3, 1, 12}, {0, 1, 3, 8}, {2, 3, 1, 7}} {
		q[step[0]] += q[step[1]]
		q[step[2]] = turned(q[step[2]]^q[step[0]], step[3])
	}
	return q
}

// unquarter is the way back.
func unquarter(q [4]uint32) [4]uint32 {
	for _, step := range [4][4]int{{2, 3, 1, 7}, {0, 1, 3, 8}, {2, 3, 1, 12}, {0, 1, 3, 16}} {
		q[step[2]] = turned(q[step[2]], 32-step[3]) ^ q[step[0]]
		q[step[0]] -= q[step[1]]
	}
	return q
}

func mixed(s chacha.State, rounds int) chacha.State {
	for round := range rounds {
		for _, at := range lines[round%2*4 : round%2*4+4] {
			q := quarter([4]uint32{s[at[0]], s[at[1]], s[at[2]], s[at[3]]})
			for i := range q {
				s[at[i]] = q[i]
			}
		}
	}
	return s
}

func unmixed(s chacha.State, rounds int) chacha.State {
	for round := rounds - 1; round >= 0; round-- {
		for _, at := range lines[round%2*4 : round%2*4+4] {
			q := unquarter([4]uint32{s[at[0]], s[at[1]], s[at[2]], s[at[3]]})
			for i := range q {
				s[at[i]] = q[i]
			}
		}
	}
	return s
}

func firstState(key [32]byte, in [16]byte) chacha.State {
	all := append(append([]byte("expand 32-byte k"), key[:]...), in[:]...)
	var s chacha.State
	for i := range s {
		s[i] = binary.LittleEndian.Uint32(all[4*i:])
	}
	return s
}

func block(key [32]byte, in [16]byte, rounds int) []byte {
	first := firstState(key, in)
	var out []byte
	for i, n := range mixed(first, rounds) {
		out = binary.LittleEndian.AppendUint32(out, n+first[i])
	}
	return out
}

func short(key [32]byte, in [16]byte, rounds int) [32]byte {
	var out []byte
	for i, n := range mixed(firstState(key, in), rounds) {
		if i < 4 || i >= 12 {
			out = binary.LittleEndian.AppendUint32(out, n)
		}
	}
	return [32]byte(out)
}

// stream has at least n bytes.
func stream(key [32]byte, nonce [24]byte, rounds, n int) []byte {
	own := short(key, [16]byte(nonce[:16]), rounds)
	var out []byte
	for i := 0; len(out) < n; i++ {
		in := append(binary.LittleEndian.AppendUint64(nil, uint64(i)), nonce[16:]...)
		out = append(out, block(own, [16]byte(in), rounds)...)
	}
	return out
}

func crypt(t *testing.T, key [32]byte, nonce [24]byte, rounds int, b []byte) []byte {
	t.Helper()
	out, e := chacha.Crypt(key, nonce, rounds, b)
	if e != api.OK || len(out) != len(b) {
		t.Fatalf("P5.1: Crypt of %d bytes with %d rounds: %d bytes, %d", len(b), rounds, len(out), e)
	}
	return out
}

func TestQuarter(t *testing.T) {
	for _, c := range [][2][4]uint32{
		// Both are RFC 8439's.
		{{0x11111111, 0x01020304, 0x9b8d6f43, 0x01234567}, {0xea2a92f4, 0xcb1cf8ce, 0x4581472e, 0x5881c4bb}},
		{{0x516461b1, 0x2a5f714c, 0x53372767, 0x3d631689}, {0xbdb886dc, 0xcfacafd2, 0xe46bea80, 0xccc07c79}},
		{{}, {}},
	} {
		q := c[0]
		if a, b, c2, d := chacha.Quarter(q[0], q[1], q[2], q[3]); [4]uint32{a, b, c2, d} != c[1] {
			t.Errorf("P5.1: the quarter of %x: %x %x %x %x", q, a, b, c2, d)
		}
	}
}

func TestQuartersThatGoRound(t *testing.T) {
	edges := []uint32{0, 1, 0x7fffffff, 0x80000000, 0xfffffffe, 0xffffffff, 0x01234567}
	for _, a := range edges {
		for _, b := range edges {
			for _, c := range edges {
				for _, d := range edges {
					want := quarter([4]uint32{a, b, c, d})
					x, y, z, w := chacha.Quarter(a, b, c, d)
					if [4]uint32{x, y, z, w} != want {
						t.Fatalf("P5.1, R6: the quarter of %x %x %x %x: %x %x %x %x", a, b, c, d, x, y, z, w)
					}
				}
			}
		}
	}
}

func TestFirstState(t *testing.T) {
	if s := chacha.Start([32]byte{}, [16]byte{}); s != (chacha.State{1634760805, 857760878, 2036477234, 1797285236}) {
		t.Errorf("P5.1: the first state of noughts: %v", s)
	}
	s := chacha.Start(counted(0), [16]byte{1, 0, 0, 0, 0, 0, 0, 9, 0, 0, 0, 74})
	// RFC 8439, 2.3.2.
	if s != (chacha.State{
		0x61707865, 0x3320646e, 0x79622d32, 0x6b206574, 0x03020100, 0x07060504, 0x0b0a0908, 0x0f0e0d0c,
		0x13121110, 0x17161514, 0x1b1a1918, 0x1f1e1d1c, 0x00000001, 0x09000000, 0x4a000000, 0x00000000,
	}) {
		t.Errorf("P5.1: the first state: %x", s)
	}
	for seed := range uint32(50) {
		key, in := [32]byte(varied(seed, 32)), [16]byte(varied(seed+500, 16))
		if s := chacha.Start(key, in); s != firstState(key, in) {
			t.Errorf("P5.1: the first state of %x and %x: %x", key, in, s)
		}
	}
}

// TestPublishedStates holds a mixed state against RFC 8439's, 2.3.2, ahead of the sum.
func TestPublishedStates(t *testing.T) {
	s, e := chacha.Mix(chacha.Start(counted(0), [16]byte{1, 0, 0, 0, 0, 0, 0, 9, 0, 0, 0, 74}), 20)
	if e != api.OK || s != (chacha.State{
		0x837778ab, 0xe238d763, 0xa67ae21e, 0x5950bb2f, 0xc4f2d0c7, 0xfc62bb2f, 0x8fa018fc, 0x3f5ec7b7,
		0x335271c2, 0xf29489f3, 0xeabda8fc, 0x82e46ebd, 0xd19c12b4, 0xb04e16de, 0x9e83d0cb, 0x4e3c50a2,
	}) {
		t.Errorf("P5.1: Mix with 20 rounds: %x, %d", s, e)
	}
}

func TestMixOfManyStates(t *testing.T) {
	for seed := range uint32(200) {
		s := stateOf(seed)
		for _, rounds := range some {
			got, e := chacha.Mix(s, rounds)
			if e != api.OK || got != mixed(s, rounds) {
				t.Errorf("P5.1: %x mixed with %d rounds: %x, %d", s, rounds, got, e)
			}
		}
		eight, _ := chacha.Mix(s, 8)
		twenty, _ := chacha.Mix(s, 20)
		if more, _ := chacha.Mix(eight, 12); more != twenty {
			t.Errorf("P5.1: 8 rounds and 12 more of %x are not 20", s)
		}
	}
}

func TestNoTwoStatesAreMixedToOne(t *testing.T) {
	for _, rounds := range some {
		seen := map[chacha.State]chacha.State{}
		look := func(s chacha.State) {
			got, e := chacha.Mix(s, rounds)
			if e != api.OK || unmixed(got, rounds) != s {
				t.Fatalf("P5.2: %x, mixed with %d rounds, does not lead back", s, rounds)
			}
			if other, ok := seen[got]; ok && other != s {
				t.Fatalf("P5.2: %x and %x are mixed to one", s, other)
			}
			seen[got] = s
		}
		look(chacha.State{})
		for seed := range uint32(500) {
			look(stateOf(seed))
		}
		for place := range 16 {
			for bit := range 32 {
				s := stateOf(1)
				s[place] ^= 1 << bit
				look(s)
			}
		}
	}
}

// TestPublishedBlocks holds blocks against RFC 8439's, and those of noughts with 8 and 12 rounds against the ones that are known of ChaCha8 and ChaCha12.
func TestPublishedBlocks(t *testing.T) {
	counts := counted(0)
	for _, c := range []struct {
		key    [32]byte
		in     [16]byte
		rounds int
		want   string
	}{
		{counts, [16]byte{1, 0, 0, 0, 0, 0, 0, 9, 0, 0, 0, 74}, 20, "10f1e7e4d13b5915500fdd1fa32071c4c7d1f4c733c068030422aa9ac3d46c4ed2826446079faa0914c2d705d98b02a2b5129cd1de164eb9cbd083e8a2503c4e"},
		{[32]byte{}, [16]byte{}, 8, "3e00ef2f895f40d67f5bb8e81f09a5a12c840ec3ce9a7f3b181be188ef711a1e984ce172b9216f419f445367456d5619314a42a3da86b001387bfdb80e0cfe42"},
		{[32]byte{}, [16]byte{}, 12, "9bf49a6a0755f953811fce125f2683d50429c3bb49e074147e0089a52eae155f0564f879d27ae3c02ce82834acfa8c793a629f2ca0de6919610be82f411326be"},
		{[32]byte{}, [16]byte{}, 20, "76b8e0ada0f13d90405d6ae55386bd28bdd219b8a08ded1aa836efcc8b770dc7da41597c5157488d7724e03fb8d84a376a43b8f41518a11cc387b669b2ee6586"},
		{[32]byte{}, [16]byte{1}, 20, "9f07e7be5551387a98ba977c732d080dcb0f29a048e3656912c6533e32ee7aed29b721769ce64e43d57133b074d839d531ed1f28510afb45ace10a1f4b794d6f"},
	} {
		if got, e := chacha.Block(c.key, c.in, c.rounds); e != api.OK || hex.EncodeToString(got[:]) != c.want {
			t.Errorf("P5.1: the block of %x and %x with %d rounds: %x, %d", c.key, c.in, c.rounds, got, e)
		}
	}
}

// TestPublishedShortOne is draft-irtf-cfrg-xchacha's.
func TestPublishedShortOne(t *testing.T) {
	got, e := chacha.Short(counted(0), [16]byte{0, 0, 0, 9, 0, 0, 0, 74, 0, 0, 0, 0, 49, 65, 89, 39}, 20)
	if e != api.OK || hex.EncodeToString(got[:]) != "82413b4227b27bfed30e42508a877d73a0f9e4d58a74a853c12ec41326d3ecdc" {
		t.Errorf("P5.1: the short one: %x, %d", got, e)
	}
}

func TestBlocksAndShortOnesOfMany(t *testing.T) {
	for seed := range uint32(100) {
		key, in := [32]byte(varied(seed, 32)), [16]byte(varied(seed+300, 16))
		for _, rounds := range some {
			long, e := chacha.Block(key, in, rounds)
			if e != api.OK || !bytes.Equal(long[:], block(key, in, rounds)) {
				t.Errorf("P5.1: the block of %x and %x with %d rounds: %x, %d", key, in, rounds, long, e)
			}
			little, e := chacha.Short(key, in, rounds)
			if e != api.OK || little != short(key, in, rounds) {
				t.Errorf("P5.1: the short one of %x and %x with %d rounds: %x, %d", key, in, rounds, little, e)
			}
		}
	}
}

func TestRoundsThatThereAreNot(t *testing.T) {
	key, in, nonce := [32]byte(varied(1, 32)), [16]byte(varied(2, 16)), [24]byte(varied(3, 24))
	for _, rounds := range none {
		if s, e := chacha.Mix(stateOf(4), rounds); e != api.ErrRounds || s != (chacha.State{}) {
			t.Errorf("P5.1, R2: Mix with %d rounds: %x, %d", rounds, s, e)
		}
		if b, e := chacha.Block(key, in, rounds); e != api.ErrRounds || b != [64]byte{} {
			t.Errorf("P5.1, R2: Block with %d rounds: %x, %d", rounds, b, e)
		}
		if b, e := chacha.Short(key, in, rounds); e != api.ErrRounds || b != [32]byte{} {
			t.Errorf("P5.1, R2: Short with %d rounds: %x, %d", rounds, b, e)
		}
		for _, n := range []int{0, 1, 64, 100} {
			if b, e := chacha.Crypt(key, nonce, rounds, make([]byte, n)); e != api.ErrRounds || len(b) != 0 {
				t.Errorf("P5.1, R2: Crypt of %d bytes with %d rounds: %x, %d", n, rounds, b, e)
			}
		}
		if b, e := chacha.Crypt(key, nonce, rounds, nil); e != api.ErrRounds || len(b) != 0 {
			t.Errorf("P5.1, R2: Crypt of nothing with %d rounds: %x, %d", rounds, b, e)
		}
	}
}

// TestKnownStream has the key and the nonce of draft-irtf-cfrg-xchacha's appendix A.3; the stream is what another program, golang.org/x/crypto, answers.
func TestKnownStream(t *testing.T) {
	nonce := [24]byte(read(t, "404142434445464748494a4b4c4d4e4f5051525354555658"))
	want := "1131ce9a2a20ae0d67c8935c7789fa1025c9e5bb720fb96f11354fb97af0bd9aadec0863ba60cac8582c48f86cdfc48edd46a48642c5de62ccf11c7b21bf337d" +
		"29624b4b1b140ace53740e405b2168540fd7d630c1f536fecd722fc3cddba7f4cca98cf9e47e5e64d115450f9b125b54449ff76141ca620a1f9cfcab2a1a8a25" +
		"5e766a5266b878846120ea64ad99aa479471e63befcbd37cd1c22a221fe462215cf32c74895bf505863ccddd48f62916dc6521f1ec50a5ae08903aa259d9bf60" +
		"7cd8026fba548604"
	if got := crypt(t, counted(0x80), nonce, 20, make([]byte, len(want)/2)); hex.EncodeToString(got) != want {
		t.Errorf("P5.1: the stream: %x", got)
	}
	text := []byte("The dhole (pronounced \"dole\") is also known as the Asiatic wild dog")
	if got := crypt(t, counted(0x80), nonce, 20, text); hex.EncodeToString(got[:16]) != "4559abba4e48c16102e8bb2c05e6947f" {
		t.Errorf("P5.1: a text: %x", got)
	}
}

// lengths are those of no bytes, of one, around whole blocks, and of so many that a block's number has two bytes.
func lengths() []int {
	all := []int{0, 1, 2, 31, 32, 33}
	for _, blocks := range []int{1, 2, 3, 10, 255, 256, 257, 300} {
		all = append(all, 64*blocks-1, 64*blocks, 64*blocks+1)
	}
	return all
}

func TestStreamsOfManyLengths(t *testing.T) {
	key, nonce := [32]byte(varied(11, 32)), [24]byte(varied(12, 24))
	for _, rounds := range some {
		whole := stream(key, nonce, rounds, 64*301)
		for _, n := range lengths() {
			text := varied(13, n)
			want := make([]byte, n)
			for i := range want {
				want[i] = text[i] ^ whole[i]
			}
			got := crypt(t, key, nonce, rounds, text)
			if !bytes.Equal(got, want) {
				t.Errorf("P5.1: %d bytes with %d rounds", n, rounds)
			}
			if back := crypt(t, key, nonce, rounds, got); !bytes.Equal(back, text) {
				t.Errorf("P5.2: %d bytes, twice, with %d rounds", n, rounds)
			}
		}
	}
}

func TestLongerStreamsBeginAsShorterOnes(t *testing.T) {
	key, nonce := [32]byte(varied(21, 32)), [24]byte(varied(22, 24))
	for _, rounds := range some {
		longest := crypt(t, key, nonce, rounds, make([]byte, 200))
		for n := range 200 {
			if got := crypt(t, key, nonce, rounds, make([]byte, n)); !bytes.Equal(got, longest[:n]) {
				t.Errorf("P5.2: the stream of %d bytes with %d rounds begins otherwise", n, rounds)
			}
		}
	}
}

func TestStreamsHangOnEveryByte(t *testing.T) {
	key, nonce := [32]byte(varied(31, 32)), [24]byte(varied(32, 24))
	for _, rounds := range some {
		seen := map[string]bool{string(crypt(t, key, nonce, rounds, make([]byte, 32))): true}
		look := func(key [32]byte, nonce [24]byte) {
			got := string(crypt(t, key, nonce, rounds, make([]byte, 32)))
			if seen[got] {
				t.Errorf("P5.1: two streams with %d rounds are one", rounds)
			}
			seen[got] = true
		}
		for i := range key {
			other := key
			other[i] ^= 0x40
			look(other, nonce)
		}
		for i := range nonce {
			other := nonce
			other[i] ^= 0x40
			look(key, other)
		}
	}
}

func TestStreamsOfNothing(t *testing.T) {
	for _, rounds := range some {
		for _, nothing := range [][]byte{nil, {}, make([]byte, 0, 64)} {
			if got, e := chacha.Crypt([32]byte{1}, [24]byte{2}, rounds, nothing); e != api.OK || len(got) != 0 {
				t.Errorf("P5.1, R3: Crypt of nothing with %d rounds: %x, %d", rounds, got, e)
			}
		}
	}
}

func TestBytesAreNeitherChangedNorKept(t *testing.T) {
	key, nonce := [32]byte(varied(41, 32)), [24]byte(varied(42, 24))
	for _, n := range []int{0, 1, 63, 64, 65, 128, 150} {
		// With room to spare behind the end.
		whole := varied(43, 300)
		got := crypt(t, key, nonce, 12, whole[:n])
		want := bytes.Clone(got)
		clear(got[:cap(got)])
		if !bytes.Equal(whole, varied(43, 300)) {
			t.Errorf("R4: of %d bytes what was handed in was changed, or handed out", n)
		}
		got = crypt(t, key, nonce, 12, whole[:n])
		clear(whole)
		if !bytes.Equal(got, want) {
			t.Errorf("R4, R5: of %d bytes what was handed in was kept", n)
		}
	}
	if key != [32]byte(varied(41, 32)) || nonce != [24]byte(varied(42, 24)) {
		t.Error("R4: the key or the nonce was changed")
	}
}

func TestStatesAreNotChanged(t *testing.T) {
	s := stateOf(51)
	one, _ := chacha.Mix(s, 8)
	one[0] ^= 1
	two, _ := chacha.Mix(s, 8)
	if s != stateOf(51) || one == two || two != mixed(stateOf(51), 8) {
		t.Error("R4, R5: a state that was handed in or out was changed")
	}
	start := chacha.Start([32]byte{}, [16]byte{})
	clear(start[:])
	if chacha.Start([32]byte{}, [16]byte{})[0] != 1634760805 {
		t.Error("R4: the first state is handed out as it is kept")
	}
}
