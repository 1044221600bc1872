package adiantum_test

import (
	"bytes"
	stdaes "crypto/aes"
	"encoding/hex"
	"math/big"
	"math/bits"
	"slices"
	"testing"

	"wringer/adhash"
	"wringer/adiantum"
	"wringer/api"
	"wringer/chacha"
	"wringer/gf"
	"wringer/turn"
)

// The tests reckon middles with numbers of any length, and take the library's AES; streams and sums are those of layers 5 and 12.

// asNumber is the number in bytes, the lowest one first.
func asNumber(b []byte) *big.Int {
	turned := bytes.Clone(b)
	slices.Reverse(turned)
	return new(big.Int).SetBytes(turned)
}

// asBlock is a number modulo 2^128, the lowest byte first.
func asBlock(n *big.Int) []byte {
	b := new(big.Int).Mod(n, new(big.Int).Lsh(big.NewInt(1), 128)).FillBytes(make([]byte, 16))
	slices.Reverse(b)
	return b
}

// stream is xor by the stream of the key and a nonce of a few bytes, with 12 rounds.
func stream(t *testing.T, key, nonce, b []byte) []byte {
	t.Helper()
	var whole [24]byte
	copy(whole[:], nonce)
	out, e := chacha.Crypt([32]byte(key), whole, 12, b)
	if e != api.OK {
		t.Fatal(e)
	}
	return out
}

// sum is layer 12's, as a number.
func sum(t *testing.T, key, tweak, b []byte) *big.Int {
	t.Helper()
	k, e := adhash.New(stream(t, key, []byte{1}, make([]byte, 1136))[32:])
	if e != api.OK {
		t.Fatal(e)
	}
	w := k.Sum(tweak, b).Bytes()
	return asNumber(w[:])
}

// enciphered is a message's, as the chapter says it.
func enciphered(t *testing.T, key, tweak, m []byte) []byte {
	t.Helper()
	block, err := stdaes.NewCipher(stream(t, key, []byte{1}, make([]byte, 32)))
	if err != nil {
		t.Fatal(err)
	}
	bulk, right := m[:len(m)-16], m[len(m)-16:]
	middle := asBlock(new(big.Int).Add(asNumber(right), sum(t, key, tweak, bulk)))
	block.Encrypt(middle, middle)
	text := stream(t, key, append(bytes.Clone(middle), 1), bulk)
	last := new(big.Int).Sub(asNumber(middle), sum(t, key, tweak, text))
	return append(text, asBlock(last)...)
}

// varied are n bytes that hang on a number.
func varied(seed uint32, n int) []byte {
	b := make([]byte, n)
	for i := range b {
		seed = seed*1664525 + 1013904223
		b[i] = byte(seed >> 24)
	}
	return b
}

// contents are n noughts, n of the greatest bytes, and n of any.
func contents(seed uint32, n int) [][]byte {
	return [][]byte{make([]byte, n), bytes.Repeat([]byte{255}, n), varied(seed, n)}
}

// tweaks are of no bytes, and around whole blocks.
func tweaks() [][]byte {
	all := [][]byte{nil}
	for _, n := range []int{1, 8, 12, 15, 16, 17, 31, 32, 33, 1000} {
		all = append(all, varied(uint32(n), n))
	}
	return append(all, make([]byte, 12), make([]byte, 32), bytes.Repeat([]byte{255}, 32))
}

// lengths are around whole blocks, blocks of the stream and pieces of the hash, of the bulk's.
var lengths = []int{16, 17, 31, 32, 33, 47, 48, 49, 79, 80, 81, 100, 128, 512, 1023, 1024, 1039, 1040, 1041, 1055, 1056, 1057, 2063, 2064, 2065, 4096}

func unhex(t *testing.T, text string) []byte {
	t.Helper()
	b, err := hex.DecodeString(text)
	if err != nil {
		t.Fatal(err)
	}
	return b
}

func tables() *turn.Tables { return turn.New(gf.Make()) }

func cipherOf(t *testing.T, key []byte) *adiantum.Cipher {
	t.Helper()
	c, e := adiantum.New(tables(), key)
	if c == nil || e != api.OK {
		t.Fatalf("P17.1: New of %d bytes: error %d", len(key), e)
	}
	return c
}

func there(t *testing.T, c *adiantum.Cipher, tweak, m []byte) []byte {
	t.Helper()
	out, e := c.Encipher(tweak, m)
	if e != api.OK || len(out) != len(m) {
		t.Fatalf("P17.1: Encipher of %d bytes: %d bytes, error %d", len(m), len(out), e)
	}
	return out
}

func back(t *testing.T, c *adiantum.Cipher, tweak, m []byte) []byte {
	t.Helper()
	out, e := c.Decipher(tweak, m)
	if e != api.OK || len(out) != len(m) {
		t.Fatalf("P17.1: Decipher of %d bytes: %d bytes, error %d", len(m), len(out), e)
	}
	return out
}

// both holds a message and its text against each other, either way.
func both(t *testing.T, c *adiantum.Cipher, tweak, m, text []byte) {
	t.Helper()
	if got := there(t, c, tweak, m); !bytes.Equal(got, text) {
		t.Errorf("P17.1: %d bytes, with a tweak of %d, are enciphered to %.16x.., not to %.16x..", len(m), len(tweak), got, text)
	}
	if got := back(t, c, tweak, text); !bytes.Equal(got, m) {
		t.Errorf("P17.1: %d bytes, with a tweak of %d, are deciphered to %.16x.., not to %.16x..", len(m), len(tweak), got, m)
	}
}

// TestPublished holds messages against the test vectors that Adiantum's makers give (Adiantum, XChaCha12, AES-256), as the module lukechampine.com/adiantum keeps them.
func TestPublished(t *testing.T) {
	for _, c := range []struct{ key, tweak, plain, text string }{
		{"701393230ebdec43d29a60ae6d2776736c6d6d418f4dea37e57aa18842d9aeea", "", "c84cea71d1c59e09591a097806157bd4", "f184198c68bc8015ddca145c9eefbca0"},
		{"9a10457f36fdab5af39b937ae8685a319f232c7eeb29af5ae4537ea33b97d88d", "e67a09dca05879c6d01c178f4e06167015", "c356839432be943c459e22f704fb5ef6", "fe49d1123c9238747179649ba66e86c6"},
		{"a4b58cd51862f2a9d48b287872794387f8a7c8eb6e65e1e9d73b7d05d51b5ca6", "2e88cf9ea46609c8aef032451984d8e31bb37b7355257b5d6a201ce0e90c754a", "3b8797f4c0ef3049a44394efe4b68365", "5c5e2f197ad30de2ef12be80a7a77cab"},
		{"8f30b47f45f552f04840636cad0ee8fc8ed8fc6c49bfdb0f77cf41e9f1a24b77", "", "e452451ac1c3da268cd03eadb83b1686bb3d6f348e2b36908c5189c7b5ce58", "90f5b99665503351a9fa2ecf5ca1f332e8f0517f16cd365bed6e2a66b05cc1"},
		{"75b867f0ed320eeb86878109c8021d5c5b070676eccce351c425f02303d57c05", "58e74a99108aa53b5f6235cde89c7e952a", "248f2fba5a3ad009332734b8ecb12348bc6c1d5c0228e9de2130a015a922cf", "030c2bdba8216035165d346ca75c4822e03d962ebd2256b23aa6d18d8a969e"},
		{"2b856f69cccf0c838887e0ce1d56dba0184f9ceea81347a5920c462c5f4789d7", "199c56e82bde0f5a3d4c6c456c8eb574af",
			"a9204f07e7e90f9c6aefaf31655679ff82dfca9b280190ce7964f6aa1cb145b63791f52f193bec9d3b650c4a212506c9c38b935596e015acfea25680ddb39cff" +
				"d48d4c4ffd43fbd1d662e260870479286712ce3b088367ca882fc314fb44cd0a483b672df04820b1044bb1724e88cf18347271ed93171d1087f73018e9d99b76",
			"789ba9a1572ed6470e677dfd3b0f99ca414f82640d574c8d693b5bc43157ce4c0b7b5d4e40cddd4b946ecbd8d74acd2fd1bcbd391729ea972cad4b0c35baae80" +
				"020b96484cda320f20705078d47a109279bbae125ac59f6a03bf116fdd05fd6984b671015b38b3779e9ff4c6481dce6ac05fd809ba42b700241eafbbe67b8865"},
		{"1fd464b73957e9c6e3655b23cf0f7f9c628df72ddc5e9a1beec1482b23010b84", "72815c74aadda067ce9f0b3d8373f247a8cca6c10ce14b05f458172d8efbcf82",
			"5dd900242e559875b7ce7eace1a839ebf2e83b0b8c4e1473ff6f73d921909cfecd0aeeee2d687552ac17f36e10591ac64a91c83373ec1a43de9cd979e1e6a5fd" +
				"ae6f26af5ec6960fbf93da6a950d4e199f0f4302519d5b8879cc9c89f93c879b20b9181b0b07d9213031afe218d1d0f34e68a0e4bffffbb8dfaa90fda5bba3c5",
			"97aecece3c1703d6d1090888e2dce5cc22722535cd67bea866e90f635ab6ed1a5889c3e49ea5ac0434c952786eaeccb8028775d5f59c6a8d9dca4a712e981d44" +
				"46d289e1d3f0361ec332d909b21ab068e0fc8565d373e1592a1a0ca1dde8dc63fb8ba65d2dfef20a99a949d643e29e66214b9242709dd0dd7ef9afd44b1657be"},
	} {
		both(t, cipherOf(t, unhex(t, c.key)), unhex(t, c.tweak), unhex(t, c.plain), unhex(t, c.text))
	}
}

func TestMessagesOfManyLengths(t *testing.T) {
	for _, key := range contents(1, 32) {
		c := cipherOf(t, key)
		for _, n := range lengths {
			for _, m := range contents(2, n) {
				for _, tweak := range [][]byte{nil, varied(3, 12), varied(4, 32)} {
					both(t, c, tweak, m, enciphered(t, key, tweak, m))
				}
			}
		}
	}
}

func TestManyTweaks(t *testing.T) {
	key := varied(5, 32)
	c := cipherOf(t, key)
	for _, n := range []int{16, 17, 48, 100} {
		told := map[string]bool{}
		for _, tweak := range tweaks() {
			m := varied(6, n)
			text := enciphered(t, key, tweak, m)
			both(t, c, tweak, m, text)
			told[string(text)] = true
		}
		if len(told) != len(tweaks()) {
			t.Errorf("P17.1: of %d bytes %d tweaks tell %d texts", n, len(tweaks()), len(told))
		}
		if !bytes.Equal(there(t, c, nil, varied(6, n)), there(t, c, []byte{}, varied(6, n))) {
			t.Error("R3: the tweaks nil and of no bytes")
		}
	}
}

// TestLongMessages goes beyond the longest message that layer 14 has parts of.
func TestLongMessages(t *testing.T) {
	key, tweak := varied(7, 32), varied(8, 20)
	c := cipherOf(t, key)
	for _, n := range []int{65535, 65536, 65537, 65552, 65553, 200001, 1<<20 + 5} {
		m := varied(9, n)
		both(t, c, tweak, m, enciphered(t, key, tweak, m))
	}
}

// TestNoBulk is the chapter's example: the middle is enciphered, and both sums are of no message.
func TestNoBulk(t *testing.T) {
	for _, key := range contents(10, 32) {
		block, err := stdaes.NewCipher(stream(t, key, []byte{1}, make([]byte, 32)))
		if err != nil {
			t.Fatal(err)
		}
		c := cipherOf(t, key)
		for _, tweak := range tweaks() {
			for _, m := range contents(11, 16) {
				own := sum(t, key, tweak, nil)
				middle := asBlock(new(big.Int).Add(asNumber(m), own))
				block.Encrypt(middle, middle)
				both(t, c, tweak, m, asBlock(new(big.Int).Sub(asNumber(middle), own)))
			}
		}
	}
}

func TestShortMessages(t *testing.T) {
	c := cipherOf(t, varied(12, 32))
	for n := range 16 {
		for _, m := range [][]byte{make([]byte, n), make([]byte, n, 40)} {
			for _, tweak := range [][]byte{nil, varied(13, 40)} {
				if out, e := c.Encipher(tweak, m); len(out) != 0 || e != api.ErrShort {
					t.Errorf("P17.1, R2: Encipher of %d bytes: %x, error %d", n, out, e)
				}
				if out, e := c.Decipher(tweak, m); len(out) != 0 || e != api.ErrShort {
					t.Errorf("P17.1, R2: Decipher of %d bytes: %x, error %d", n, out, e)
				}
			}
		}
	}
	if out, e := c.Encipher(nil, nil); len(out) != 0 || e != api.ErrShort {
		t.Errorf("P17.1, R3: Encipher of nil: %x, error %d", out, e)
	}
	if out, e := c.Decipher(nil, nil); len(out) != 0 || e != api.ErrShort {
		t.Errorf("P17.1, R3: Decipher of nil: %x, error %d", out, e)
	}
}

func TestKeysThatThereAreNot(t *testing.T) {
	x := tables()
	for n := range 200 {
		for _, key := range [][]byte{make([]byte, n), make([]byte, n, 300)} {
			if c, e := adiantum.New(x, key); n != 32 && (c != nil || e != api.ErrKey) {
				t.Errorf("P17.1, R2: New of %d bytes: error %d", n, e)
			} else if n == 32 && (c == nil || e != api.OK) {
				t.Errorf("P17.1: New of 32 bytes: error %d", e)
			}
			if c, e := adiantum.New(nil, key); c != nil || e != api.ErrTable {
				t.Errorf("P17.1, R2: New without tables, of %d bytes: error %d", n, e)
			}
		}
	}
	if c, e := adiantum.New(x, nil); c != nil || e != api.ErrKey {
		t.Errorf("P17.1, R3: New of nil: error %d", e)
	}
	if c, e := adiantum.New(nil, nil); c != nil || e != api.ErrTable {
		t.Errorf("P17.1, R2: New of nil, without tables: error %d", e)
	}
}

func TestCiphersWithoutAKey(t *testing.T) {
	// What New has not made has no keys; the chapter has no words on it, but no call panics.
	for _, c := range []*adiantum.Cipher{nil, new(adiantum.Cipher)} {
		for _, n := range []int{0, 1, 15, 16, 17, 100, 2000} {
			for _, tweak := range [][]byte{nil, {}, varied(14, 32)} {
				if out, e := c.Encipher(tweak, make([]byte, n)); len(out) != 0 || e != api.ErrKey {
					t.Errorf("P17.1, R2: Encipher of %d bytes without a key: %x, error %d", n, out, e)
				}
				if out, e := c.Decipher(tweak, make([]byte, n)); len(out) != 0 || e != api.ErrKey {
					t.Errorf("P17.1, R2: Decipher of %d bytes without a key: %x, error %d", n, out, e)
				}
			}
		}
		if out, e := c.Encipher(nil, nil); len(out) != 0 || e != api.ErrKey {
			t.Errorf("P17.1, R2: Encipher of nil without a key: %x, error %d", out, e)
		}
	}
}

func TestThereAndBackAndTheOtherWayRound(t *testing.T) {
	for seed := range uint32(20) {
		c, tweak := cipherOf(t, varied(seed, 32)), varied(seed+1, int(seed))
		for n := 16; n < 150; n++ {
			m := varied(seed+2, n)
			if !bytes.Equal(back(t, c, tweak, there(t, c, tweak, m)), m) {
				t.Fatalf("P17.2: %d bytes, enciphered, are not deciphered to what they were", n)
			}
			if !bytes.Equal(there(t, c, tweak, back(t, c, tweak, m)), m) {
				t.Fatalf("P17.2: %d bytes, deciphered, are not enciphered to what they were", n)
			}
		}
	}
}

func TestNoTwoMessagesHaveOneText(t *testing.T) {
	c, tweak := cipherOf(t, varied(15, 32)), varied(16, 9)
	for _, n := range []int{16, 17, 32, 40} {
		told, untold := map[string]bool{}, map[string]bool{}
		many := 0
		for at := range n {
			for by := range 256 {
				m := varied(17, n)
				if by == int(m[at]) && at > 0 {
					continue
				}
				m[at] = byte(by)
				told[string(there(t, c, tweak, m))] = true
				untold[string(back(t, c, tweak, m))] = true
				many++
			}
		}
		if len(told) != many || len(untold) != many {
			t.Errorf("P17.2: %d messages of %d bytes have %d texts, and are the texts of %d", many, n, len(told), len(untold))
		}
	}
}

// differing are how many bits of two rows of one length differ in the piece of them in which fewest do.
func differing(a, b []byte) int {
	fewest := len(a) * 8
	for at := 0; at < len(a); at += 16 {
		many := 0
		// The last piece reaches back, so that each has 16 bytes.
		for i := min(at, len(a)-16); i < min(at+16, len(a)); i++ {
			many += bits.OnesCount8(a[i] ^ b[i])
		}
		fewest = min(fewest, many)
	}
	return fewest
}

// TestEveryBitHangsOnEveryOther turns bits one by one: half of a piece's 128 bits should be others then, and fewer than 30 can't be chance.
func TestEveryBitHangsOnEveryOther(t *testing.T) {
	key, tweak, m := varied(18, 32), varied(19, 20), varied(20, 70)
	c := cipherOf(t, key)
	text, plain := there(t, c, tweak, m), back(t, c, tweak, m)
	for _, row := range [][]byte{key, tweak, m} {
		for bit := range 8 * len(row) {
			row[bit/8] ^= 1 << (bit % 8)
			other := cipherOf(t, key)
			if many := differing(text, there(t, other, tweak, m)); many < 30 {
				t.Errorf("the bit %d of %d bytes turns %d bits of a piece of the text", bit, len(row), many)
			}
			if many := differing(plain, back(t, other, tweak, m)); many < 30 {
				t.Errorf("the bit %d of %d bytes turns %d bits of a piece of what is deciphered", bit, len(row), many)
			}
			row[bit/8] ^= 1 << (bit % 8)
		}
	}
}

func TestWhatIsHandedInIsNeitherChangedNorKept(t *testing.T) {
	// With room to spare behind the ends.
	key, tweak, m := varied(21, 60), varied(22, 60), varied(23, 200)
	c := cipherOf(t, key[:32])
	if !bytes.Equal(key, varied(21, 60)) {
		t.Error("R4: a key, or what is behind it, was changed")
	}
	clear(key)
	for _, n := range []int{16, 17, 31, 32, 33, 80, 150} {
		for _, size := range []int{0, 1, 16, 33} {
			want := enciphered(t, varied(21, 32), varied(22, size), varied(23, n))
			one, two := there(t, c, tweak[:size], m[:n]), there(t, c, tweak[:size], m[:n])
			three, four := back(t, c, tweak[:size], m[:n]), back(t, c, tweak[:size], m[:n])
			if !bytes.Equal(tweak, varied(22, 60)) || !bytes.Equal(m, varied(23, 200)) {
				t.Fatalf("R4: %d and %d bytes, or what is behind them, were changed", size, n)
			}
			if !bytes.Equal(one, want) || !bytes.Equal(two, want) || !bytes.Equal(three, four) {
				t.Errorf("R4, R5: %d and %d bytes: a key was kept, or two calls answer two things", size, n)
			}
			clear(two[:cap(two)])
			clear(four[:cap(four)])
			if !bytes.Equal(m, varied(23, 200)) || !bytes.Equal(one, want) || !bytes.Equal(there(t, c, tweak[:size], three), varied(23, n)) {
				t.Errorf("R4: %d bytes: what was handed out is shared", n)
			}
		}
	}
	one := there(t, c, tweak[:5], m[:100])
	clear(m)
	clear(tweak)
	if !bytes.Equal(one, enciphered(t, varied(21, 32), varied(22, 5), varied(23, 100))) {
		t.Error("R4: a message, or a tweak, was kept")
	}
}

func TestCiphersShareNothing(t *testing.T) {
	x, m := tables(), varied(24, 100)
	one, _ := adiantum.New(x, varied(25, 32))
	two, _ := adiantum.New(x, varied(26, 32))
	both(t, one, nil, m, enciphered(t, varied(25, 32), nil, m))
	both(t, two, nil, m, enciphered(t, varied(26, 32), nil, m))
	both(t, one, nil, m, enciphered(t, varied(25, 32), nil, m))
	if *x != *tables() {
		t.Error("R4: the tables were changed")
	}
}
