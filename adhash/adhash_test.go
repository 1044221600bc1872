package adhash_test

import (
	"bytes"
	"encoding/binary"
	"encoding/hex"
	"math"
	"math/big"
	"slices"
	"testing"

	"wringer/adhash"
	"wringer/aes"
	"wringer/api"
	"wringer/chacha"
	"wringer/gf"
	"wringer/octet"
	"wringer/turn"
)

// The tests reckon with numbers of any length, from a key's bytes on, and call neither layer 8 nor layer 9.

func power(n uint) *big.Int { return new(big.Int).Lsh(big.NewInt(1), n) }

// asNumber is the number in bytes, the lowest one first.
func asNumber(b []byte) *big.Int {
	turned := bytes.Clone(b)
	slices.Reverse(turned)
	return new(big.Int).SetBytes(turned)
}

// asWide is a number modulo 2^128.
func asWide(n *big.Int) octet.Wide {
	low := new(big.Int).Mod(n, power(128))
	return octet.Wide{Lo: new(big.Int).Mod(low, power(64)).Uint64(), Hi: new(big.Int).Rsh(low, 64).Uint64()}
}

// polynomial is a value modulo 2^130 - 5: the last part times the clamped key, the one ahead of it times its square, and so on.
func polynomial(key, b []byte) *big.Int {
	mask, _ := new(big.Int).SetString("0ffffffc0ffffffc0ffffffc0fffffff", 16)
	r := new(big.Int).And(asNumber(key), mask)
	modulus := new(big.Int).Sub(power(130), big.NewInt(5))
	sum, factor := new(big.Int), big.NewInt(1)
	for _, part := range slices.Backward(slices.Collect(slices.Chunk(b, 16))) {
		factor = new(big.Int).Mod(factor.Mul(factor, r), modulus)
		sum.Add(sum, new(big.Int).Mul(factor, asNumber(append(bytes.Clone(part), 1))))
	}
	return sum.Mod(sum, modulus)
}

// products are NH's four numbers of a piece of whole units, as bytes.
func products(key, piece []byte) []byte {
	at := func(b []byte, i int) *big.Int { return big.NewInt(int64(binary.LittleEndian.Uint32(b[4*i:]))) }
	var out []byte
	for pass := range 4 {
		sum := new(big.Int)
		added := func(i int) *big.Int {
			n := at(piece, i)
			return n.Mod(n.Add(n, at(key, i+4*pass)), power(32))
		}
		for i := 0; i < len(piece)/4; i += 4 {
			sum.Add(sum, new(big.Int).Mul(added(i), added(i+2)))
			sum.Add(sum, new(big.Int).Mul(added(i+1), added(i+3)))
		}
		out = binary.LittleEndian.AppendUint64(out, sum.Mod(sum, power(64)).Uint64())
	}
	return out
}

// head and body are as the chapter says them.
func head(key, tweak []byte, n int) *big.Int {
	length := new(big.Int).Mul(big.NewInt(8), big.NewInt(int64(max(n, 0)))).FillBytes(make([]byte, 16))
	slices.Reverse(length)
	return polynomial(key[:16], append(length, tweak...))
}

func body(key, b []byte) *big.Int {
	whole := append(bytes.Clone(b), make([]byte, (16-len(b)%16)%16)...)
	var hashes []byte
	for piece := range slices.Chunk(whole, 1024) {
		hashes = append(hashes, products(key[32:], piece)...)
	}
	return polynomial(key[16:32], hashes)
}

// sum is of both as numbers below 2^128.
func sum(key, tweak, b []byte) *big.Int {
	low := func(n *big.Int) *big.Int { return n.Mod(n, power(128)) }
	return new(big.Int).Add(low(head(key, tweak, len(b))), low(body(key, b)))
}

// varied are n bytes that hang on a number.
func varied(seed uint32, n int) []byte {
	b := make([]byte, n)
	for i := range b {
		seed = seed*1664525 + 1013904223
		b[i] = byte(seed >> 24)
	}
	return b
}

// contents are n noughts, n of the greatest bytes, and n of any.
func contents(seed uint32, n int) [][]byte {
	return [][]byte{make([]byte, n), bytes.Repeat([]byte{255}, n), varied(seed, n)}
}

// lengths are of nothing, of one byte, and around whole units and whole pieces.
var lengths = []int{0, 1, 2, 15, 16, 17, 31, 32, 33, 100, 1007, 1008, 1009, 1022, 1023, 1024, 1025, 1039, 1040, 1041, 2047, 2048, 2049, 3072, 5000}

func keysOf(t *testing.T, key []byte) *adhash.Keys {
	t.Helper()
	k, e := adhash.New(key)
	if k == nil || e != api.OK {
		t.Fatalf("P12.1: New of %d bytes: error %d", len(key), e)
	}
	return k
}

func unhex(t *testing.T, text string) []byte {
	t.Helper()
	b, err := hex.DecodeString(text)
	if err != nil {
		t.Fatal(err)
	}
	return b
}

func TestKeysThatThereAreNot(t *testing.T) {
	for _, n := range []int{0, 1, 16, 32, 1072, 1088, 1100, 1103, 1105, 1108, 1120, 2208, 65536 + 1104} {
		if k, e := adhash.New(make([]byte, n)); k != nil || e != api.ErrKey {
			t.Errorf("P12.1, R2: New of %d bytes: error %d", n, e)
		}
	}
	if k, e := adhash.New(nil); k != nil || e != api.ErrKey {
		t.Errorf("P12.1, R3: New of nil: error %d", e)
	}
	// The spare room behind a key's end is none of it.
	if k, e := adhash.New(make([]byte, 1103, 1104)); k != nil || e != api.ErrKey {
		t.Errorf("P12.1: New of 1103 bytes, with room for one more: error %d", e)
	}
	keysOf(t, make([]byte, 1104))
	keysOf(t, make([]byte, 1104, 2000))
}

func TestKeysThatAreNil(t *testing.T) {
	var k *adhash.Keys
	for _, n := range lengths {
		b := bytes.Repeat([]byte{255}, n)
		if k.Head(b, n) != (octet.Wide{}) || k.Head(nil, n) != (octet.Wide{}) || k.Head(b, -n) != (octet.Wide{}) {
			t.Errorf("P12.1, R1: Head of nil, with %d bytes, is not 0", n)
		}
		if k.Body(b) != (octet.Wide{}) || k.Sum(b, b) != (octet.Wide{}) || k.Sum(nil, b) != (octet.Wide{}) {
			t.Errorf("P12.1, R1: Body or Sum of nil, with %d bytes, is not 0", n)
		}
	}
}

func TestExample(t *testing.T) {
	k := keysOf(t, make([]byte, 1104))
	for _, n := range lengths {
		for _, b := range contents(1, n) {
			if k.Head(b, n) != (octet.Wide{}) || k.Body(b) != (octet.Wide{}) || k.Sum(b, b) != (octet.Wide{}) {
				t.Errorf("P12.1: by a key of noughts, %d bytes: %v, %v", n, k.Head(b, n), k.Body(b))
			}
		}
	}
}

// TestPlainNumbers is reckoned by hand: both keys are 1, so that numbers are only added.
func TestPlainNumbers(t *testing.T) {
	key := make([]byte, 1104)
	key[0], key[16] = 1, 1
	k := keysOf(t, key)
	// 8 n, and 2^128, which is above a tag.
	if got := k.Head(nil, 3); got != (octet.Wide{Lo: 24}) {
		t.Errorf("P12.1: the head of no tweak and 3: %v", got)
	}
	// The tweak 5 7 is 5 + 7 256 + 65536.
	if got := k.Head([]byte{5, 7}, 2); got != (octet.Wide{Lo: 16 + 5 + 7*256 + 65536}) {
		t.Errorf("P12.1: the head of 5 7 and 2: %v", got)
	}
	// A unit of 1, 2, 3, 4 is 11 in each pass; two passes are a part.
	unit := []byte{1, 0, 0, 0, 2, 0, 0, 0, 3, 0, 0, 0, 4, 0, 0, 0}
	if got := k.Body(unit); got != (octet.Wide{Lo: 22, Hi: 22}) {
		t.Errorf("P12.1: the body of a unit: %v", got)
	}
	// 64 units are one piece, and the next one is another one's.
	for _, many := range []int{1, 2, 63, 64, 65, 128, 129} {
		want := octet.Wide{Lo: uint64(22 * many), Hi: uint64(22 * many)}
		// Each piece has two parts with 2^128 each; past 2^130, 4 2^128 are 5.
		parts := new(big.Int).Mul(power(128), big.NewInt(int64((many+63)/64*2)))
		extra := asWide(parts.Mod(parts, new(big.Int).Sub(power(130), big.NewInt(5))))
		if got := k.Body(bytes.Repeat(unit, many)); got != want.Plus(extra) {
			t.Errorf("P12.1: the body of %d units: %v, not %v", many, got, want.Plus(extra))
		}
	}
	if got := k.Sum([]byte{5, 7}, unit); got != (octet.Wide{Lo: 128 + 5 + 7*256 + 65536 + 22, Hi: 22}) {
		t.Errorf("P12.1: the sum: %v", got)
	}
}

// TestWhichKeyIsWhose makes one part of a key after the other something else than noughts.
func TestWhichKeyIsWhose(t *testing.T) {
	b, tweak := varied(2, 1040), varied(3, 20)
	one := func(from, to int) []byte {
		key := make([]byte, 1104)
		copy(key[from:to], varied(4, to-from))
		return key
	}
	if k := keysOf(t, one(0, 16)); k.Head(tweak, 5) == (octet.Wide{}) || k.Body(b) != (octet.Wide{}) {
		t.Error("P12.1: the first 16 bytes are not the key for tweaks")
	}
	if k := keysOf(t, one(16, 32)); k.Head(tweak, 5) != (octet.Wide{}) || k.Body(b) == (octet.Wide{}) {
		t.Error("P12.1: the next 16 bytes are not the key for messages")
	}
	if k := keysOf(t, one(32, 1104)); k.Head(tweak, 5) != (octet.Wide{}) || k.Body(b) != (octet.Wide{}) {
		t.Error("P12.1: the others are not the key for NH alone")
	}
}

// TestEachByteOfAKeyCounts turns a bit that clamping keeps, or any of NH's.
func TestEachByteOfAKeyCounts(t *testing.T) {
	tweak, b := varied(5, 33), varied(6, 1024)
	k := keysOf(t, varied(7, 1104))
	for at := range 1104 {
		key := varied(7, 1104)
		key[at] ^= 4
		other := keysOf(t, key)
		if (k.Head(tweak, 7) != other.Head(tweak, 7)) != (at < 16) {
			t.Errorf("P12.1: the key's byte at %d and the head", at)
		}
		if (k.Body(b) != other.Body(b)) != (at >= 16) {
			t.Errorf("P12.1: the key's byte at %d and the body", at)
		}
	}
}

func TestHeads(t *testing.T) {
	great := []int{math.MinInt, -1 << 61, -1 << 32, -8, -1, 0, 1, 2, 31, 32, 65536, math.MaxInt32, 1 << 32, 1<<60 - 1, 1 << 60, 1<<61 - 1, 1 << 61, 1<<61 + 1, 1 << 62, math.MaxInt}
	for _, key := range contents(8, 1104) {
		k := keysOf(t, key)
		for _, n := range great {
			for _, size := range []int{0, 1, 12, 15, 16, 17, 32, 33, 255, 1025} {
				for _, tweak := range contents(9, size) {
					if got := k.Head(tweak, n); got != asWide(head(key, tweak, n)) {
						t.Errorf("P12.1: the head of %d bytes and %d: %v", size, n, got)
					}
				}
			}
		}
		for _, n := range []int{-1, -8, math.MinInt, math.MinInt + 1} {
			if k.Head(key[:3], n) != k.Head(key[:3], 0) {
				t.Errorf("P12.1: the head of %d is not that of 0", n)
			}
		}
		if k.Head(nil, 9) != k.Head([]byte{}, 9) {
			t.Error("R3: the heads of nil and of no bytes")
		}
	}
}

func TestHeadsHangOnTweakAndLength(t *testing.T) {
	k := keysOf(t, varied(10, 1104))
	told := map[octet.Wide]bool{}
	many := 0
	for size := range 40 {
		for _, n := range []int{0, 1, 2, 15, 16, 1 << 61, 1 << 62} {
			// Noughts behind a tweak are another tweak.
			told[k.Head(make([]byte, size), n)] = true
			many++
		}
	}
	if len(told) != many {
		t.Errorf("P12.1: %d tweaks and lengths have %d heads", many, len(told))
	}
}

func TestBodiesAndSums(t *testing.T) {
	for _, key := range contents(11, 1104) {
		k := keysOf(t, key)
		for _, n := range lengths {
			for _, b := range contents(12, n) {
				if got := k.Body(b); got != asWide(body(key, b)) {
					t.Fatalf("P12.1: the body of %d bytes: %v", n, got)
				}
				for _, tweak := range [][]byte{nil, varied(13, 12), varied(13, 32)} {
					if got := k.Sum(tweak, b); got != asWide(sum(key, tweak, b)) {
						t.Fatalf("P12.1: the sum of %d and %d bytes: %v", len(tweak), n, got)
					}
				}
			}
		}
	}
}

// TestBodiesOfAllLengths goes over a piece's end byte by byte.
func TestBodiesOfAllLengths(t *testing.T) {
	key, b := varied(14, 1104), varied(15, 1100)
	k := keysOf(t, key)
	for n := range 1101 {
		if got := k.Body(b[:n]); got != asWide(body(key, b[:n])) {
			t.Fatalf("P12.1: the body of %d bytes: %v", n, got)
		}
	}
}

func TestSumIsHeadAndBody(t *testing.T) {
	carried, round := false, false
	for seed := range uint32(200) {
		k, tweak, b := keysOf(t, varied(seed, 1104)), varied(seed+1, int(seed)), varied(seed+2, int(3*seed))
		head, body := k.Head(tweak, len(b)), k.Body(b)
		if got := k.Sum(tweak, b); got != head.Plus(body) {
			t.Errorf("P12.1: the sum of %v and %v: %v", head, body, got)
		}
		carried = carried || head.Lo+body.Lo < head.Lo
		round = round || head.Hi+body.Hi < head.Hi
	}
	if !carried || !round {
		t.Error("the samples have no sums that carry, or none that go round at 2^128")
	}
}

func TestNoughtsBehind(t *testing.T) {
	k := keysOf(t, varied(16, 1104))
	for _, n := range lengths {
		b := varied(17, n)
		whole := (n + 15) / 16 * 16
		for more := n; more <= whole; more++ {
			if k.Body(append(bytes.Clone(b), make([]byte, more-n)...)) != k.Body(b) {
				t.Errorf("P12.2: noughts behind %d bytes, up to %d, change the body", n, more)
			}
		}
		if k.Body(append(bytes.Clone(b), make([]byte, whole+1-n)...)) == k.Body(b) {
			t.Errorf("P12.2: noughts behind %d bytes, beyond a multiple of 16, do not change the body", n)
		}
		// The head has the length.
		if n != whole && k.Sum(nil, b) == k.Sum(nil, append(bytes.Clone(b), 0)) {
			t.Errorf("P12.1: a nought behind %d bytes does not change the sum", n)
		}
	}
}

func TestNoMessage(t *testing.T) {
	for _, key := range contents(18, 1104) {
		k := keysOf(t, key)
		for _, b := range [][]byte{nil, {}, varied(19, 40)[:0]} {
			if got := k.Body(b); got != (octet.Wide{}) {
				t.Errorf("P12.2, R3: the body of no message: %v", got)
			}
			if k.Sum(key[:20], b) != k.Head(key[:20], 0) {
				t.Error("P12.2: the sum of no message is not the head")
			}
		}
	}
}

// TestPublishedTexts enciphers by Adiantum, which chapter 17 builds of this hash. The texts are of the test vectors that its makers give (Adiantum, XChaCha12, AES-256), as the module lukechampine.com/adiantum keeps them.
func TestPublishedTexts(t *testing.T) {
	for _, c := range []struct{ key, tweak, plain, text string }{
		{"7fc7152ae1f5fda4176769aec92bba82a314e7cfadfd8540da7b7d24bdf17d07", "", "9be382c65ac19fad4659b80bacc857a0", "820ae44477dd9a186f80288b25070e85"},
		{"79ceb08ef87a67c6482c2ac0a5450649c890b8e9c6b6b350bd9e465626f2b03b", "e693be89f5ee40def29cb5ec6a3723460e", "5d839837c6339e7e59add25b8a3a9d03", "96232f7d52fc986398a58bdfcabc852f"},
		{"9eebb2493c1cf5f46a99c2c4dfb1f4dd752057ea2c4fcdb2a53d7b491eabfd0f", "df63d4abd249f3d8338137607dfa7308d8496d80e82f6254eb0ea9395b457f8a", "67c9f23084418e43fbf3b33e79367fe8", "6d32861867860f3f967c9d280d53ec9f"},
		{"4260244fcf1dc13d3132cb3fb7a49c7b88e575bd726d052a6a5cd7264ad24a7a", "", "7912c8f77406549a2d23df49a163046a3f7990b3da30b94395043a8a8fba19", "76167e759696c2c6db5e215ebc398f722813fe8a39d5ea56d5b9f290753f04"},
		{"362b5797f85dcd995f1a5a441d920f27cc16d72b856399d3ba96a1dbd26068da", "ef5869b12c5e9a4724c1b169e112938f433d6d00db5ed8d9129afed9ff2daac4", "5ea8681985981223260accdb0a04b9df4db3487bb0e3c819435a4606942df2", "c7c6f1738fc4ff4a39be78be8d28c8894663e70c7d87e84ec9187bbe186050"},
		{"a52824341a3cd8f705918fee851f357f803dfc9b94f6fc9e190900a904314f11", "a1ba4995ff346db8cd875d5efdea85db8a7b5eb25d57dd62aca98c41429475b7",
			"69b4e88c37e86782f1ec5d04e5149113dff2871b69811d71709e9c3bde497011a0a3db0d544f6669d7db80a7709268ce81042cc6abaee56015e96fefaa8fa7a7" +
				"638ff2f077f1a8eae1b71f9eab9e4b3f07875b6fcda8afb9fa700b52b8a8a79e075fa60eb39b791379c33e8d1c2c68c8511d3c7b7d79772a5665c5542328b003",
			"9e16abed4ba7425ac6fb4e76ffbe03a00fe3adbae4982b0e2148a0b865482748845454b29a947be64b29e9cf0591801a3af34196851d9f74515663fa7c288549" +
				"f72ff9f21846f53380a33cceb25793f5aebda9f57b30c49366e0307716e4a031ba70bc6813f5b09ac1fc7efe55805c4874a6aaa3acdcc2f58dde34867860758d"},
	} {
		if got := enciphered(t, [32]byte(unhex(t, c.key)), unhex(t, c.tweak), unhex(t, c.plain)); hex.EncodeToString(got) != c.text {
			t.Errorf("P12.1: %s and %s are enciphered to %x, not %s", c.tweak, c.plain, got, c.text)
		}
	}
}

func enciphered(t *testing.T, key [32]byte, tweak, plain []byte) []byte {
	t.Helper()
	made, _ := chacha.Crypt(key, [24]byte{1}, 12, make([]byte, 32+1104))
	block, _ := aes.Expand(turn.New(gf.Make()), made[:32])
	k := keysOf(t, made[32:])
	end := len(plain) - 16
	middle := block.Encrypt(octet.Load(plain[end:]).Plus(k.Sum(tweak, plain[:end])).Bytes())
	nonce := [24]byte{16: 1}
	copy(nonce[:], middle[:])
	text, _ := chacha.Crypt(key, nonce, 12, plain[:end])
	last := octet.Load(middle[:]).Minus(k.Sum(tweak, text)).Bytes()
	return append(text, last[:]...)
}

func TestWhatIsHandedInIsNeitherChangedNorKept(t *testing.T) {
	// With room to spare behind the ends.
	key := varied(20, 1200)
	k := keysOf(t, key[:1104])
	if !bytes.Equal(key, varied(20, 1200)) {
		t.Error("R4: a key, or what is behind it, was changed")
	}
	tweak, b := varied(21, 40), varied(22, 2000)
	want := asWide(sum(key[:1104], tweak, b))
	clear(key)
	if k.Sum(tweak, b) != want {
		t.Error("R4: a key was kept")
	}
	for _, n := range []int{0, 1, 15, 16, 17, 1023, 1024, 1025, 1990} {
		for _, size := range []int{0, 1, 15, 16, 33} {
			head, body, sum := k.Head(tweak[:size], n), k.Body(b[:n]), k.Sum(tweak[:size], b[:n])
			if !bytes.Equal(tweak, varied(21, 40)) || !bytes.Equal(b, varied(22, 2000)) {
				t.Fatalf("R4: %d and %d bytes, or what is behind them, were changed", size, n)
			}
			if k.Sum(tweak[:size], b[:n]) != sum || k.Body(b[:n]) != body || k.Head(tweak[:size], n) != head {
				t.Errorf("R5: %d and %d bytes: two calls answer two things", size, n)
			}
			// What stands behind the end counts nowhere.
			if k.Body(bytes.Clone(b[:n])) != body || k.Head(bytes.Clone(tweak[:size]), n) != head {
				t.Errorf("R5: %d and %d bytes: what is behind them counts", size, n)
			}
		}
	}
}

func TestKeysShareNothing(t *testing.T) {
	first, second := varied(23, 1104), varied(24, 1104)
	one := keysOf(t, first)
	two := keysOf(t, second)
	b := varied(25, 1500)
	if one.Sum(b, b) != asWide(sum(first, b, b)) || two.Sum(b, b) != asWide(sum(second, b, b)) {
		t.Error("R5: two keys are not each its own")
	}
}
