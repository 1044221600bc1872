package hctr_test

import (
	"bytes"
	"crypto/aes"
	"crypto/cipher"
	"encoding/binary"
	"encoding/hex"
	"math/bits"
	"testing"

	"wringer/api"
	"wringer/gf"
	"wringer/hctr"
	"wringer/turn"
	"wringer/val"
)

// The tests take the library's AES, and go by XCTR byte by byte; hashes are those of layer 11.

func plus(rows ...[]byte) []byte {
	out := bytes.Clone(rows[0])
	for _, row := range rows[1:] {
		for i := range out {
			out[i] ^= row[i]
		}
	}
	return out
}

func blockOf(t *testing.T, key []byte) cipher.Block {
	t.Helper()
	block, err := aes.NewCipher(key)
	if err != nil {
		t.Fatal(err)
	}
	return block
}

// turned is a block that is enciphered.
func turned(block cipher.Block, b []byte) []byte {
	out := make([]byte, 16)
	block.Encrypt(out, b)
	return out
}

// hash is layer 11's, by the key's own block.
func hash(block cipher.Block, tweak, m []byte) []byte {
	h := val.Hash([16]byte(turned(block, make([]byte, 16))), tweak, m)
	return h[:]
}

// stream is b by exclusive or with the blocks 1, 2, 3 and so on of a start.
func stream(block cipher.Block, start, b []byte) []byte {
	out := bytes.Clone(b)
	var now []byte
	for at := range out {
		if at%16 == 0 {
			number := binary.LittleEndian.AppendUint64(nil, uint64(at/16+1))
			now = turned(block, plus(start, append(number, make([]byte, 8)...)))
		}
		out[at] ^= now[at%16]
	}
	return out
}

// enciphered is a message's, as the chapter says it.
func enciphered(t *testing.T, key, tweak, m []byte) []byte {
	t.Helper()
	block := blockOf(t, key)
	one := plus(m[:16], hash(block, tweak, m[16:]))
	two := turned(block, one)
	l := turned(block, append([]byte{1}, make([]byte, 15)...))
	bulk := stream(block, plus(one, two, l), m[16:])
	return append(plus(two, hash(block, tweak, bulk)), bulk...)
}

// varied are n bytes that hang on a number.
func varied(seed uint32, n int) []byte {
	b := make([]byte, n)
	for i := range b {
		seed = seed*1664525 + 1013904223
		b[i] = byte(seed >> 24)
	}
	return b
}

// contents are n noughts, n of the greatest bytes, and n of any.
func contents(seed uint32, n int) [][]byte {
	return [][]byte{make([]byte, n), bytes.Repeat([]byte{255}, n), varied(seed, n)}
}

// tweaks are of no bytes, and around whole blocks; some differ by noughts behind alone.
func tweaks() [][]byte {
	all := [][]byte{nil}
	for _, n := range []int{1, 8, 12, 15, 16, 17, 31, 32, 33, 1000} {
		all = append(all, varied(uint32(n), n))
	}
	return append(all, make([]byte, 1), make([]byte, 12), make([]byte, 16), make([]byte, 32), bytes.Repeat([]byte{255}, 32))
}

var keySizes = []int{16, 24, 32}

// lengths are of no bulk, and of one around whole blocks, and around as many of them as a byte can number.
var lengths = []int{16, 17, 31, 32, 33, 47, 48, 49, 100, 128, 255, 256, 257, 512, 1040, 1041, 4095, 4096, 4097, 4111, 4112, 4113}

func unhex(t *testing.T, text string) []byte {
	t.Helper()
	b, err := hex.DecodeString(text)
	if err != nil {
		t.Fatal(err)
	}
	return b
}

func tables() *turn.Tables { return turn.New(gf.Make()) }

func cipherOf(t *testing.T, key []byte) *hctr.Cipher {
	t.Helper()
	c, e := hctr.New(tables(), key)
	if c == nil || e != api.OK {
		t.Fatalf("P18.1: New of %d bytes: error %d", len(key), e)
	}
	return c
}

func there(t *testing.T, c *hctr.Cipher, tweak, m []byte) []byte {
	t.Helper()
	out, e := c.Encipher(tweak, m)
	if e != api.OK || len(out) != len(m) {
		t.Fatalf("P18.1: Encipher of %d bytes: %d bytes, error %d", len(m), len(out), e)
	}
	return out
}

func back(t *testing.T, c *hctr.Cipher, tweak, m []byte) []byte {
	t.Helper()
	out, e := c.Decipher(tweak, m)
	if e != api.OK || len(out) != len(m) {
		t.Fatalf("P18.1: Decipher of %d bytes: %d bytes, error %d", len(m), len(out), e)
	}
	return out
}

// both holds a message and its text against each other, either way.
func both(t *testing.T, c *hctr.Cipher, tweak, m, text []byte) {
	t.Helper()
	if got := there(t, c, tweak, m); !bytes.Equal(got, text) {
		t.Errorf("P18.1: %d bytes, with a tweak of %d, are enciphered to %.16x.., not to %.16x..", len(m), len(tweak), got, text)
	}
	if got := back(t, c, tweak, text); !bytes.Equal(got, m) {
		t.Errorf("P18.1: %d bytes, with a tweak of %d, are deciphered to %.16x.., not to %.16x..", len(m), len(tweak), got, m)
	}
}

// TestPublished holds messages against the test vectors that HCTR2's makers give, as Linux keeps them (crypto/testmgr.h).
func TestPublished(t *testing.T) {
	for _, c := range []struct{ key, tweak, plain, text string }{
		{"e115663c8dc63affef41d747a2cc8aba", "c3be2acbb53986f191ad6cf4de7445635c7ad5cc8b76ef0ecf2c606937fd0796", "6575aed3e2bc435cb31ad805c3d05629", "1191ea7458ccd5a2d0559e3dfe7fc8fe"},
		{"e7d17748760bcd342a2de774ca119cae", "711c4962d95b505e6887bcf689ffed30e4e5bdb6104f9f6628065af42735cde5", "87038f06a86154da0145d401ef4a22cf78159fbd64bd2cb9401d72ae5363a5", "4ea10527b845e4a1bb30b4a6127463d617c9cc2f1864e0060aa0ff72107b22"},
		{"59653b1d435ec0aeb89d9bdd2203bfca", "ec95fa5acf5ed293a3b5e5bef3017b01d1ca6c0682f0bd67d96ca4dcb4380f74",
			"45df7587bc72ce55c9facbfc9f40822bc64f4f5b8b3b6d67a69362898c19f4e308929cc9472c6ed0a3022bdb2cf28d46cdb09d26634c406b7943e5ce42a8ec3b" +
				"5bd0eaa4e6db66557a76ecab7d2a2bbda9ab22641aa1ae84867967e9b250be122fb214f0db71d8a7418a88a06a6e9d2afa11374032094c47410731853da8f764",
			"2d4b9f93ca5a482601cc54e4315012f049ff594268bd878f9e6296cdb92457a40b7bf52e0ea86507ab05d5cae79c6c345d4234a462e975483d9e8ffa42e97508" +
				"4e54912bbd110f8ef082f524f1c4fcae42547fce15a8b233c086b62be844ce1f685766946eadebf330f811bd6000c6d54c81f1202b4a5b99793bc95c7423e65d"},
		{"24f6e162e5af99da84ec41b0a30bd5a8a03e7ba6dd6c8fa8", "7f80246232ddab66f2872924ecd24b9f0c3352d9e0cc6ee490854397c4621433", "ef58e77fa9d9b8d7a2919707279ebae8aa", "d7c38191f24017733e3b1c2a8e119c17f1"},
		{"bfafd7678c47cf218aa5dd322547be4ff13a0ba6aa2dcf09", "d9e8f0924efc1df281377c8ff1590920f44651864f548b3258d1998b8c03eb5d", "cd6490f97ce50e5a75e78e3986ec20438a49091547f43c8921ebcf4ecf91b540cde54d5c6ff2d280faabb3769f7f840a", "44986415b70b80a3b9ca23ff3b0b6874bb3e20199f28712a483c7ce2efb510ac829fcd088f6b166fc3bb07fb3cb01b27"},
		{"9eebb2493c1cf5f46a99c2c4dfb1f4dd752057ea2c4fcdb2a53d7b491eabfd0f", "df63d4abd249f3d8338137607dfa7308d8496d80e82f6254eb0ea9395b457f8a", "67c9f23084418e43fbf3b33e79367fe8", "2738784716d971352e7edd7e433cb840"},
		{"93fa7ee20e67c439e7ca4795689d5e5a7c2619abc6ca6a4c45a69642ae6cffe7", "ea8247953b22a13a6aca244c507e23cd0e50e541b66529d8302300d254a7d656", "db1f1fecad836e5d19a5f63bb4935a576f", "f1466e9db301f06bc2ac5788486d407268"},
		{"362b5797f85dcd995f1a5a441d920f27cc16d72b856399d3ba96a1dbd26068da", "ef5869b12c5e9a4724c1b169e112938f433d6d00db5ed8d9129afed9ff2daac4", "5ea8681985981223260accdb0a04b9df4db3487bb0e3c819435a4606942df2", "dbfdc803d0ecc1febd6437b88243624e7e54a3e224a727e8a4d5b36cb226b4"},
		{"0365036e4de6e84e8bbe22194831eed9a09121be6289de78d9b036a33cce43d5", "a9c34be70ffc6dbf5627211cfcd604105f43e23035296c1090f1bf61ed0f8a91", "07aa0226b498115e3341215151632c7200ab32a71cc83c9c250e8b9adf85ed2df4f2bc55ca926d22fd223b424c0b74ec", "7bb1436dd8726cf6676a00c4f1f0f5a4fc6091ab460b15fcd7c12815a1fcf7688ecc276200645672a617d73f67801058"},
	} {
		both(t, cipherOf(t, unhex(t, c.key)), unhex(t, c.tweak), unhex(t, c.plain), unhex(t, c.text))
	}
}

func TestMessagesOfManyLengths(t *testing.T) {
	for _, size := range keySizes {
		for _, key := range contents(1, size) {
			c := cipherOf(t, key)
			for _, n := range lengths {
				for _, m := range contents(2, n) {
					both(t, c, varied(3, 32), m, enciphered(t, key, varied(3, 32), m))
				}
				both(t, c, nil, varied(4, n), enciphered(t, key, nil, varied(4, n)))
			}
		}
	}
}

func TestManyTweaks(t *testing.T) {
	for _, size := range keySizes {
		key := varied(5, size)
		c := cipherOf(t, key)
		for _, n := range []int{16, 17, 48, 100} {
			m, told := varied(6, n), map[string]bool{}
			for _, tweak := range tweaks() {
				text := enciphered(t, key, tweak, m)
				both(t, c, tweak, m, text)
				told[string(text)] = true
			}
			if len(told) != len(tweaks()) {
				t.Errorf("P18.1: of %d bytes %d tweaks tell %d texts", n, len(tweaks()), len(told))
			}
			if !bytes.Equal(there(t, c, nil, m), there(t, c, []byte{}, m)) {
				t.Error("R3: the tweaks nil and of no bytes")
			}
		}
	}
}

// TestLongMessages goes beyond the longest message that layer 14 has parts of.
func TestLongMessages(t *testing.T) {
	key, tweak := varied(7, 16), varied(8, 20)
	c := cipherOf(t, key)
	for _, n := range []int{65535, 65536, 65537, 65552, 65553, 200001, 1<<20 + 21} {
		m := varied(9, n)
		both(t, c, tweak, m, enciphered(t, key, tweak, m))
	}
}

// TestNoBulk has messages whose left part alone is enciphered, between two hashes of no message.
func TestNoBulk(t *testing.T) {
	for _, size := range keySizes {
		key := varied(10, size)
		block, c := blockOf(t, key), cipherOf(t, key)
		for _, tweak := range tweaks() {
			for _, m := range contents(11, 16) {
				own := hash(block, tweak, nil)
				both(t, c, tweak, m, plus(turned(block, plus(m, own)), own))
			}
		}
	}
}

func TestShortMessages(t *testing.T) {
	for _, size := range keySizes {
		c := cipherOf(t, varied(12, size))
		for n := range 16 {
			for _, m := range [][]byte{make([]byte, n), make([]byte, n, 40)} {
				for _, tweak := range [][]byte{nil, varied(13, 40)} {
					if out, e := c.Encipher(tweak, m); len(out) != 0 || e != api.ErrShort {
						t.Errorf("P18.1, R2: Encipher of %d bytes: %x, error %d", n, out, e)
					}
					if out, e := c.Decipher(tweak, m); len(out) != 0 || e != api.ErrShort {
						t.Errorf("P18.1, R2: Decipher of %d bytes: %x, error %d", n, out, e)
					}
				}
			}
		}
		if out, e := c.Encipher(nil, nil); len(out) != 0 || e != api.ErrShort {
			t.Errorf("P18.1, R3: Encipher of nil: %x, error %d", out, e)
		}
		if out, e := c.Decipher(nil, nil); len(out) != 0 || e != api.ErrShort {
			t.Errorf("P18.1, R3: Decipher of nil: %x, error %d", out, e)
		}
	}
}

func TestKeysThatThereAreNot(t *testing.T) {
	x := tables()
	for n := range 200 {
		may := n == 16 || n == 24 || n == 32
		for _, key := range [][]byte{make([]byte, n), make([]byte, n, 300)} {
			if c, e := hctr.New(x, key); !may && (c != nil || e != api.ErrKey) {
				t.Errorf("P18.1, R2: New of %d bytes: error %d", n, e)
			} else if may && (c == nil || e != api.OK) {
				t.Errorf("P18.1: New of %d bytes: error %d", n, e)
			}
			if c, e := hctr.New(nil, key); c != nil || e != api.ErrTable {
				t.Errorf("P18.1, R2: New without tables, of %d bytes: error %d", n, e)
			}
		}
	}
	if c, e := hctr.New(x, nil); c != nil || e != api.ErrKey {
		t.Errorf("P18.1, R3: New of nil: error %d", e)
	}
	if c, e := hctr.New(nil, nil); c != nil || e != api.ErrTable {
		t.Errorf("P18.1, R2: New of nil, without tables: error %d", e)
	}
}

func TestCiphersWithoutAKey(t *testing.T) {
	// What New has not made has no key; the chapter has no words on it, but no call panics.
	for _, c := range []*hctr.Cipher{nil, new(hctr.Cipher)} {
		for _, n := range []int{0, 1, 15, 16, 17, 100, 2000} {
			for _, tweak := range [][]byte{nil, {}, varied(14, 32)} {
				if out, e := c.Encipher(tweak, make([]byte, n)); len(out) != 0 || e != api.ErrKey {
					t.Errorf("P18.1, R2: Encipher of %d bytes without a key: %x, error %d", n, out, e)
				}
				if out, e := c.Decipher(tweak, make([]byte, n)); len(out) != 0 || e != api.ErrKey {
					t.Errorf("P18.1, R2: Decipher of %d bytes without a key: %x, error %d", n, out, e)
				}
			}
		}
		if out, e := c.Encipher(nil, nil); len(out) != 0 || e != api.ErrKey {
			t.Errorf("P18.1, R2: Encipher of nil without a key: %x, error %d", out, e)
		}
	}
}

func TestThereAndBackAndTheOtherWayRound(t *testing.T) {
	for seed := range uint32(21) {
		c, tweak := cipherOf(t, varied(seed, keySizes[seed%3])), varied(seed+1, int(seed))
		for n := 16; n < 100; n++ {
			m := varied(seed+2, n)
			if !bytes.Equal(back(t, c, tweak, there(t, c, tweak, m)), m) {
				t.Fatalf("P18.2: %d bytes, enciphered, are not deciphered to what they were", n)
			}
			if !bytes.Equal(there(t, c, tweak, back(t, c, tweak, m)), m) {
				t.Fatalf("P18.2: %d bytes, deciphered, are not enciphered to what they were", n)
			}
		}
	}
}

func TestNoTwoMessagesHaveOneText(t *testing.T) {
	c, tweak := cipherOf(t, varied(15, 16)), varied(16, 9)
	for _, n := range []int{16, 17, 32, 40} {
		told, untold := map[string]bool{}, map[string]bool{}
		many := 0
		for at := range n {
			for by := range 256 {
				m := varied(17, n)
				if by == int(m[at]) && at > 0 {
					continue
				}
				m[at] = byte(by)
				told[string(there(t, c, tweak, m))] = true
				untold[string(back(t, c, tweak, m))] = true
				many++
			}
		}
		if len(told) != many || len(untold) != many {
			t.Errorf("P18.2: %d messages of %d bytes have %d texts, and are the texts of %d", many, n, len(told), len(untold))
		}
	}
}

// differing are how many bits of two rows of one length differ in the piece of them in which fewest do.
func differing(a, b []byte) int {
	fewest := len(a) * 8
	for at := 0; at < len(a); at += 16 {
		many := 0
		// The last piece reaches back, so that each has 16 bytes.
		for i := min(at, len(a)-16); i < min(at+16, len(a)); i++ {
			many += bits.OnesCount8(a[i] ^ b[i])
		}
		fewest = min(fewest, many)
	}
	return fewest
}

// TestEveryBitHangsOnEveryOther turns bits one by one: half of a piece's 128 bits should be others then, and fewer than 30 can't be chance.
func TestEveryBitHangsOnEveryOther(t *testing.T) {
	for _, size := range keySizes {
		key, tweak, m := varied(18, size), varied(19, 20), varied(20, 70)
		c := cipherOf(t, key)
		text, plain := there(t, c, tweak, m), back(t, c, tweak, m)
		for _, row := range [][]byte{key, tweak, m} {
			for bit := range 8 * len(row) {
				row[bit/8] ^= 1 << (bit % 8)
				other := cipherOf(t, key)
				if many := differing(text, there(t, other, tweak, m)); many < 30 {
					t.Errorf("the bit %d of %d bytes turns %d bits of a piece of the text", bit, len(row), many)
				}
				if many := differing(plain, back(t, other, tweak, m)); many < 30 {
					t.Errorf("the bit %d of %d bytes turns %d bits of a piece of what is deciphered", bit, len(row), many)
				}
				row[bit/8] ^= 1 << (bit % 8)
			}
		}
	}
}

func TestWhatIsHandedInIsNeitherChangedNorKept(t *testing.T) {
	for _, long := range keySizes {
		// With room to spare behind the ends.
		key, tweak, m := varied(21, 60), varied(22, 60), varied(23, 200)
		c := cipherOf(t, key[:long])
		if !bytes.Equal(key, varied(21, 60)) {
			t.Error("R4: a key, or what is behind it, was changed")
		}
		clear(key)
		for _, n := range []int{16, 17, 31, 32, 33, 80, 150} {
			for _, size := range []int{0, 1, 16, 33} {
				want := enciphered(t, varied(21, long), varied(22, size), varied(23, n))
				one, two := there(t, c, tweak[:size], m[:n]), there(t, c, tweak[:size], m[:n])
				three, four := back(t, c, tweak[:size], m[:n]), back(t, c, tweak[:size], m[:n])
				if !bytes.Equal(tweak, varied(22, 60)) || !bytes.Equal(m, varied(23, 200)) {
					t.Fatalf("R4: %d and %d bytes, or what is behind them, were changed", size, n)
				}
				if !bytes.Equal(one, want) || !bytes.Equal(two, want) || !bytes.Equal(three, four) {
					t.Errorf("R4, R5: %d and %d bytes: a key was kept, or two calls answer two things", size, n)
				}
				clear(two[:cap(two)])
				clear(four[:cap(four)])
				if !bytes.Equal(m, varied(23, 200)) || !bytes.Equal(one, want) || !bytes.Equal(there(t, c, tweak[:size], three), varied(23, n)) {
					t.Errorf("R4: %d bytes: what was handed out is shared", n)
				}
			}
		}
		one := there(t, c, tweak[:5], m[:100])
		clear(m)
		clear(tweak)
		if !bytes.Equal(one, enciphered(t, varied(21, long), varied(22, 5), varied(23, 100))) {
			t.Error("R4: a message, or a tweak, was kept")
		}
	}
}

func TestCiphersShareNothing(t *testing.T) {
	x, m := tables(), varied(24, 100)
	one, _ := hctr.New(x, varied(25, 32))
	two, _ := hctr.New(x, varied(26, 16))
	both(t, one, nil, m, enciphered(t, varied(25, 32), nil, m))
	both(t, two, nil, m, enciphered(t, varied(26, 16), nil, m))
	both(t, one, nil, m, enciphered(t, varied(25, 32), nil, m))
	if *x != *tables() {
		t.Error("R4: the tables were changed")
	}
}

// TestTheKeyIsPromoted asks a cipher what its key tells: that is how the document has it built.
func TestTheKeyIsPromoted(t *testing.T) {
	key := varied(27, 24)
	c, b := cipherOf(t, key), varied(28, 16)
	if got := c.Encrypt([16]byte(b)); !bytes.Equal(got[:], turned(blockOf(t, key), b)) || c.Decrypt(got) != [16]byte(b) || c.Rounds() != 12 {
		t.Error("the calls of the key that is embedded are not the key's")
	}
}
