package ezcore_test

import (
	"bytes"
	"crypto/sha256"
	"encoding/hex"
	"math/bits"
	"slices"
	"testing"

	"wringer/api"
	"wringer/cut"
	"wringer/ezcore"
	"wringer/ezhash"
	"wringer/ezkey"
	"wringer/gf"
	"wringer/turn"
)

// The tests cut messages byte by byte, and take E from layer 15 and hashes from layer 16; some known answers come from elsewhere.

func plus(rows ...[]byte) []byte {
	out := make([]byte, 16)
	for _, row := range rows {
		for i := range row {
			out[i] ^= row[i]
		}
	}
	return out
}

// e is layer 15's, of up to 16 bytes and noughts.
func e(k *ezkey.Keys, j, i int, b []byte) []byte {
	x := k.E(j, i, [16]byte(plus(b)))
	return x[:]
}

// tail is what the bytes between the pairs and X bring.
func tail(k *ezkey.Keys, uv []byte) []byte {
	marked := append(bytes.Clone(uv), 128)
	switch {
	case len(uv) == 0:
		return nil
	case len(uv) < 16:
		return e(k, 0, 4, marked)
	}
	return plus(e(k, 0, 4, marked[:16]), e(k, 0, 5, marked[16:]))
}

// reckoned is a message turned, as the chapter says it, in its place.
func reckoned(k *ezkey.Keys, row [][]byte, m []byte, back bool) []byte {
	out := bytes.Clone(m)
	end := len(m) - 32
	pairs, uv, x, y := out[:end-end%32], out[end-end%32:end], out[end:end+16], out[end+16:]
	a, b := 1, 2
	if back {
		a, b = 2, 1
	}
	hash := ezhash.Hash(k, row)
	h := hash[:]
	p := plus(tail(k, uv))
	for at := 0; at < len(pairs); at += 32 {
		first, second := pairs[at:at+16], pairs[at+16:at+32]
		copy(first, plus(first, e(k, 1, at/32+1, second)))
		copy(second, plus(second, e(k, 0, 0, first)))
		p = plus(p, second)
	}
	s := plus(x, h, p, e(k, 0, a, y))
	u := plus(y, e(k, -1, a, s))
	z := plus(s, u)
	var q []byte
	for at := 0; at < len(pairs); at += 32 {
		first, second, own := pairs[at:at+16], pairs[at+16:at+32], e(k, 2, at/32+1, z)
		w, v := plus(first, own), plus(second, own)
		q = plus(q, w)
		copy(second, plus(w, e(k, 0, 0, v)))
		copy(first, plus(v, e(k, 1, at/32+1, second)))
	}
	stream := slices.Concat(e(k, -1, 4, z), e(k, -1, 5, z))
	for i := range uv {
		uv[i] ^= stream[i]
	}
	copy(y, plus(s, e(k, -1, b, u)))
	copy(x, plus(u, h, q, tail(k, uv), e(k, 0, b, y)))
	return out
}

// varied are n bytes that hang on a number.
func varied(seed uint32, n int) []byte {
	b := make([]byte, n)
	for i := range b {
		seed = seed*1664525 + 1013904223
		b[i] = byte(seed >> 24)
	}
	return b
}

// rising are 0 1 2 .. , n bytes.
func rising(n int) []byte {
	b := make([]byte, n)
	for i := range b {
		b[i] = byte(i)
	}
	return b
}

// contents are n noughts, n of the greatest bytes, and n of any.
func contents(seed uint32, n int) [][]byte {
	return [][]byte{make([]byte, n), bytes.Repeat([]byte{255}, n), varied(seed, n), rising(n)}
}

// rows are of no strings, of one, and of many, some of them empty.
func rows() [][][]byte {
	return [][][]byte{
		nil, {nil}, {[]byte("abc"), nil}, {rising(33), nil, rising(300), {128}},
		{nil, nil}, {{0}}, {{128}}, {rising(15)}, {rising(16)}, {rising(17)}, {nil, rising(16)}, {rising(16), nil}, make([][]byte, 50),
	}
}

func keysOf(t *testing.T, key []byte) *ezkey.Keys {
	t.Helper()
	k, e := ezkey.Extract(turn.New(gf.Make()), key)
	if e != api.OK {
		t.Fatalf("Extract of %d bytes: error %d", len(key), e)
	}
	return k
}

func turned(t *testing.T, k *ezkey.Keys, row [][]byte, m []byte, back bool) []byte {
	t.Helper()
	out, e := ezcore.Turn(k, row, m, back)
	if e != api.OK || len(out) != len(m) {
		t.Fatalf("P20.1: Turn of %d bytes, back %v: %d bytes, error %d", len(m), back, len(out), e)
	}
	return out
}

// both holds a message and its text against each other, either way.
func both(t *testing.T, k *ezkey.Keys, row [][]byte, m, text []byte) {
	t.Helper()
	if got := turned(t, k, row, m, false); !bytes.Equal(got, text) {
		t.Errorf("P20.1: %d bytes, with %d strings, are enciphered to %.16x.., not to %.16x..", len(m), len(row), got, text)
	}
	if got := turned(t, k, row, text, true); !bytes.Equal(got, m) {
		t.Errorf("P20.1: %d bytes, with %d strings, are deciphered to %.16x.., not to %.16x..", len(m), len(row), got, m)
	}
}

func unhex(t *testing.T, text string) []byte {
	t.Helper()
	b, err := hex.DecodeString(text)
	if err != nil {
		t.Fatal(err)
	}
	return b
}

func summed(b []byte) string {
	sum := sha256.Sum256(b)
	return hex.EncodeToString(sum[:])
}

func TestMessagesOfManyLengths(t *testing.T) {
	for _, key := range [][]byte{varied(1, 48), varied(2, 1), bytes.Repeat([]byte{255}, 128)} {
		k := keysOf(t, key)
		for n := 32; n < 165; n++ {
			for at, row := range rows()[:4] {
				for _, m := range contents(uint32(at), n) {
					both(t, k, row, m, reckoned(k, row, m, false))
				}
			}
		}
	}
}

func TestTheOtherWay(t *testing.T) {
	k := keysOf(t, varied(3, 48))
	for n := 32; n < 165; n++ {
		for _, row := range rows() {
			if got, want := turned(t, k, row, varied(4, n), true), reckoned(k, row, varied(4, n), true); !bytes.Equal(got, want) {
				t.Errorf("P20.1: %d bytes, with %d strings, are deciphered to %.16x.., not to %.16x..", n, len(row), got, want)
			}
		}
	}
}

// TestLongMessages goes beyond the longest message that layer 14 has parts of, and beyond as many pairs as have numbers of two bytes.
func TestLongMessages(t *testing.T) {
	k := keysOf(t, varied(5, 48))
	for _, n := range []int{255, 256, 257, 1000, 4095, 4096, 8191, 8192, 8225, 65535, 65536, 65537, 65552, 65553, 65568, 65569, 100007} {
		m := varied(6, n)
		both(t, k, rows()[3], m, reckoned(k, rows()[3], m, false))
	}
	m := varied(7, 32*65537+32+17)
	if got := turned(t, k, nil, m, false); !bytes.Equal(got, reckoned(k, nil, m, false)) {
		t.Errorf("P20.1: %d bytes are enciphered to others", len(m))
	}
}

// TestKnown holds the messages 0 1 2 .. of the lengths in which a part begins or ends, enciphered and deciphered, against a program in another language that was written for it, by its library's BLAKE2b.
func TestKnown(t *testing.T) {
	k, row := keysOf(t, []byte("a key")), rows()[2]
	for _, c := range []struct{ there, back string }{
		{"d551818cfc2ae6d7a6381ac62ab1fd700b719879a14b2d07135eb437af7b3c8e", "67f3505a027b7c8ed0f9d7fc1e447eb6388a0151ea39ec36d2b039fb96d7e5f8"},
		{"093801a50bc9178a77852cc7e0ebc4acfb9d7a311f4f351b358f4a849b1c50aff3", "a2fdc3a43f2916cfdc2356536d28a99096f11f7756b4b4f244f90559a1e1c8dfe8"},
		{"c9645ffbe209a87b27fa28f4521e28a6346792dedf0cbaff61aa64afbf8b42eb65db188e035e4e10c4a62b0af70e16", "5aaa8f291ee940d124bde8dfde6a1d7ad5cb398043ab6b141af31dee2abe5693897c9418487266bcc52fe992660521"},
		{"5e9b3a1276228dc04a945ee4b08accee704370646b42196cdc3ab9ec23e7a5b3a5ccdc22839b76650a7f74a49055e33f", "3cc2ad321265e4fe69eb7d0207821005fcb986925417ee9dfd82aab192a3a3a5c405823edbcc14afe7de79ea34cf0307"},
		{"24e705b21ed7c70b72b282956eac8b326705657c76e8addd97588463288594793022e2d63644076980bb11c11d742c6454", "c5fcd7cd96de85f13334a046c6cb1072ee6585688e3af8ef65dd79b37ef98ececbc07c0a2871afef6cb168c9a64d8e0a6c"},
		{"edfdfb7621288ce07b573258de3c27bca8c81c39d6fe4c0ef129267f20b0d2c76975c5d183467ad1aabe510725f34e87118fe918d922fe4ddd0d8885806bbe", "989742125ab7e3c22eb424cc2745892ae24a6635c52ddf9b1044675eeb067d59564c812b516fda9d678b3acd316806e97784014988128de09ba9145aa483b5"},
		{"cb4feec260f787ec0b626bbcdc823efe515a39de58bb5ca4daae7d03fa751be6197c3a5b53687281411e7eb0125808bcd41afbc31b0d0fed953e9bd5821b02d6", "1880e979d3375c53affe4e2a9828895dacf16ab67f35fdd172819e2fc152a6a18667102b002bc0fc2d742c550b0eb74f60c9e017adfd379cafe64c761239b121"},
		{"aa3f8b9c846f8c41b0631552334fa9591361f7b3e60630cd2cdb5b53b954ca9e157fe379e5a0781d6ae0a6822ccb890d53c3fab33ebf94da554d6ae3a03c414706", "3d74dec943a29297c08e70fe91e004a4a0a615e3e0731d9ebae282e4fe430e3c1e5fb0c34cb5e1bd44f3ad5a630714b49148343ea5a57e6c64a98bf3d0b2bc7ba3"},
	} {
		text, plain := unhex(t, c.there), unhex(t, c.back)
		both(t, k, row, rising(len(text)), text)
		both(t, k, row, plain, rising(len(plain)))
	}
}

// TestKnownSums holds the sums of what the messages 0 1 2 .. of 32 to 200 bytes are turned to, one behind the other, against the same program.
func TestKnownSums(t *testing.T) {
	for _, c := range []struct {
		key         []byte
		row         int
		there, back string
	}{
		{rising(48), 0, "6ae07562f45825a70521176526f28fa1f74bea89dc8ac4746025eea5f067d4a7", "76bdb12bab4e6ecaf7d961185acb0040bd4f5b361e08b2765c51a40dcf333fb6"},
		{rising(48), 1, "519101323e89b199e701ddb7e7b381c637a8a93808fb13aac067353008400930", "79ebadc15caa94c422a74543fed8658eed6b6b0beb69d591c9e95a90525f2e44"},
		{rising(48), 2, "f3f162039eee0a8677afc45c885d824e1cdca0acd20802a4adc58103928a6d3e", "52e91ca4a37518fb9849499affed4996397402fc2fa7c853fccfdfe83ad48330"},
		{rising(48), 3, "81e310a924dcd5d3287b22266ab7ac235c046901b7de8683e84a499fb94e0f13", "902ee288d03b8a9f69aacbfd1b89d63bb49fac2b3bf2bcd19fc02fa3826305e3"},
		{[]byte("a key"), 0, "b0dbfeffbdd77a535b1164f608b4d181fe8fd40b176e0945631b6d77946a1841", "813a97da743217c1b1657e991f745c7450b1ac2e15eab9e2901e34ce309fe6af"},
		{[]byte("a key"), 1, "95678f7d359aeb057948d98a1256bdc50d232d6984a5b611a1fb84ed11619611", "1474815e678d68e37d0bb395fdc076025df4f7b5bd168efdde52bea7f132851b"},
		{[]byte("a key"), 2, "33f1dd34c8dcf285e8151a0661da86305c42446c5a5918c049dfbe2e22b10c28", "a954c795c150386d971bdf273689644aa0551d09ac32075a872fac3f6d5cfe49"},
		{[]byte("a key"), 3, "02751e9c5d928a752fbfc8d834be3f92fd204f79eb791c46415ed9be891e6145", "871d1aa086901a8cd6fa8312aceae87ab6df356aa35eab909e9e865293fe783e"},
	} {
		k, row := keysOf(t, c.key), rows()[c.row]
		var there, back []byte
		for n := 32; n <= 200; n++ {
			there = append(there, turned(t, k, row, rising(n), false)...)
			back = append(back, turned(t, k, row, rising(n), true)...)
		}
		if summed(there) != c.there || summed(back) != c.back {
			t.Errorf("P20.1: by a key of %d bytes, with row %d: %s, %s", len(c.key), c.row, summed(there), summed(back))
		}
	}
}

// TestKnownSumsOfLongMessages is as TestKnownSums, but that each sum is one message's.
func TestKnownSumsOfLongMessages(t *testing.T) {
	k, row := keysOf(t, []byte("a key")), rows()[2]
	for _, c := range []struct {
		n           int
		there, back string
	}{
		{1000, "058f402dae96c214f6a2cfd2afd185b478e8cb654b1ef5da73f348f617afa398", "70338e41a1ff08ccf763db85106a5f3229e599eeab613339843c1999ff0e9255"},
		{4096, "246b1d9e52e1ff140a7763eedea0c460f70866199440db1ec9730f33052d29e3", "8550c85330e3923e92c18b9b13932a811c726085d13dcced317188094d183cce"},
		{65535, "74c73191e125c64368477ff0aa0870d70b369fc43688e359dd2f05522d5e0aca", "23db3c8f3ca6652e4f382b55a93300852126cf9ef4f5aa3c64b644cece31537d"},
		{65536, "08c5e72ced215ea9906320a94a1188ef7304656489e6e29d89b5cb52f5b4388c", "c64d03f49bf9812a4b320cb337a80bdec59707e41f28188d785f0c77d1507ad4"},
		{65537, "c0b3a06cf000c455ada28496a7463450c8edd3d16c7e4183218665d73200c004", "8760fc2e29c95c6a224e0a936ef58aa4256f3019f5a423f7519fe462137acf63"},
		{70001, "7f75d199bdb2350781ff3c145fb09faa9a6e98ad79a49f2f43f23bc98ef87901", "c78b3b71e7f0f919249d6372b87f48b5259436f8c45253d1319ab02c4c158aba"},
	} {
		if got := summed(turned(t, k, row, rising(c.n), false)); got != c.there {
			t.Errorf("P20.1: %d bytes, enciphered, have the sum %s", c.n, got)
		}
		if got := summed(turned(t, k, row, rising(c.n), true)); got != c.back {
			t.Errorf("P20.1: %d bytes, deciphered, have the sum %s", c.n, got)
		}
	}
}

// TestPartsStandWhereTheyStood tells layer 14's parts of a text, each as the chapter's steps have it.
func TestPartsStandWhereTheyStood(t *testing.T) {
	k, row := keysOf(t, varied(8, 48)), rows()[2]
	for _, n := range []int{32, 33, 47, 48, 49, 63, 64, 85, 96, 100, 112, 120} {
		m := varied(9, n)
		text := turned(t, k, row, m, false)
		from, to := partsOf(t, m), partsOf(t, text)
		h := ezhash.Hash(k, row)
		x, y := from[cut.X][0], to[cut.Y][0]
		p, q := tail(k, slices.Concat(from[cut.U][0], from[cut.V][0])), tail(k, slices.Concat(to[cut.U][0], to[cut.V][0]))
		s := plus(x, h[:], p, e(k, 0, 1, from[cut.Y][0]))
		for i := range from[cut.First] {
			w := plus(from[cut.First][i], e(k, 1, i+1, from[cut.Second][i]))
			s = plus(s, from[cut.Second][i], e(k, 0, 0, w))
		}
		u := plus(from[cut.Y][0], e(k, -1, 1, s))
		z := plus(s, u)
		// From the text's side the same pairs have their sum, by v instead of x.
		for i := range to[cut.First] {
			v := plus(to[cut.First][i], e(k, 1, i+1, to[cut.Second][i]))
			q = plus(q, to[cut.Second][i], e(k, 0, 0, v))
		}
		if !bytes.Equal(y, plus(s, e(k, -1, 2, u))) {
			t.Errorf("P20.1: Y of %d bytes is %x", n, y)
		}
		if !bytes.Equal(to[cut.X][0], plus(u, h[:], q, e(k, 0, 2, y))) {
			t.Errorf("P20.1: X of %d bytes is %x", n, to[cut.X][0])
		}
		for kind, number := range map[int]int{cut.U: 4, cut.V: 5} {
			many := len(from[kind][0])
			if want := plus(from[kind][0], e(k, -1, number, z)); len(to[kind][0]) != many || !bytes.Equal(to[kind][0], want[:many]) {
				t.Errorf("P20.1: the part %d of %d bytes is %x", kind, n, to[kind][0])
			}
		}
	}
}

// partsOf are a message's parts by their kinds; U and V have no bytes, if there are none.
func partsOf(t *testing.T, m []byte) map[int][][]byte {
	t.Helper()
	parts, e := cut.Parts(api.AEZ, len(m))
	if e != api.OK {
		t.Fatalf("Parts of %d bytes: error %d", len(m), e)
	}
	out := map[int][][]byte{}
	for _, part := range parts {
		b, _ := cut.Of(m, part.At)
		out[part.Kind] = append(out[part.Kind], b)
	}
	for _, kind := range []int{cut.U, cut.V} {
		if len(out[kind]) == 0 {
			out[kind] = [][]byte{nil}
		}
	}
	return out
}

// TestNoughtsAndMarksCount tells that what is put behind U and V is not what they could end in themselves: one byte more, or a mark, changes X and Y.
func TestNoughtsAndMarksCount(t *testing.T) {
	k := keysOf(t, varied(10, 48))
	told := map[string]bool{}
	for n := range 32 {
		for _, uv := range [][]byte{make([]byte, n), append(make([]byte, n), 128)} {
			if len(uv) == 32 {
				continue
			}
			text := turned(t, k, nil, append(bytes.Clone(uv), varied(11, 32)...), false)
			told[string(text[len(uv):])] = true
		}
	}
	if len(told) != 63 {
		t.Errorf("P20.1: of 63 messages there are %d ends", len(told))
	}
}

func TestShortMessages(t *testing.T) {
	k := keysOf(t, varied(12, 48))
	for n := range 32 {
		for _, m := range [][]byte{make([]byte, n), make([]byte, n, 80)} {
			for _, row := range rows() {
				for _, back := range []bool{false, true} {
					if out, e := ezcore.Turn(k, row, m, back); len(out) != 0 || e != api.ErrShort {
						t.Errorf("P20.1, R2: Turn of %d bytes, back %v: %x, error %d", n, back, out, e)
					}
				}
			}
		}
	}
	for _, back := range []bool{false, true} {
		if out, e := ezcore.Turn(k, nil, nil, back); len(out) != 0 || e != api.ErrShort {
			t.Errorf("P20.1, R3: Turn of nil, back %v: %x, error %d", back, out, e)
		}
	}
}

func TestKeysThatAreNil(t *testing.T) {
	for _, row := range rows() {
		for _, back := range []bool{false, true} {
			for _, n := range []int{0, 1, 15, 16, 31, 32, 33, 64, 100, 2000, 70000} {
				// The key is asked for ahead of the message.
				if out, e := ezcore.Turn(nil, row, make([]byte, n), back); len(out) != 0 || e != api.ErrKey {
					t.Errorf("P20.1, R2: Turn of nil, of %d bytes, back %v: %x, error %d", n, back, out, e)
				}
			}
			if out, e := ezcore.Turn(nil, row, nil, back); len(out) != 0 || e != api.ErrKey {
				t.Errorf("P20.1, R2: Turn of nil, of nil, back %v: %x, error %d", back, out, e)
			}
		}
	}
}

func TestThereAndBackAndTheOtherWayRound(t *testing.T) {
	for seed := range uint32(26) {
		k, row := keysOf(t, varied(seed, int(seed)+1)), rows()[seed%13]
		for n := 32; n < 140; n++ {
			m := contents(seed+1, n)[n%4]
			if !bytes.Equal(turned(t, k, row, turned(t, k, row, m, false), true), m) {
				t.Fatalf("P20.2: %d bytes, enciphered, are not deciphered to what they were", n)
			}
			if !bytes.Equal(turned(t, k, row, turned(t, k, row, m, true), false), m) {
				t.Fatalf("P20.2: %d bytes, deciphered, are not enciphered to what they were", n)
			}
		}
	}
}

func TestNoTwoMessagesHaveOneText(t *testing.T) {
	k, row := keysOf(t, varied(13, 48)), [][]byte{varied(14, 9)}
	for _, n := range []int{32, 33, 48, 63, 64, 85} {
		told, untold := map[string]bool{}, map[string]bool{}
		many := 0
		for at := range n {
			for by := range 256 {
				m := varied(15, n)
				if by == int(m[at]) && at > 0 {
					continue
				}
				m[at] = byte(by)
				told[string(turned(t, k, row, m, false))] = true
				untold[string(turned(t, k, row, m, true))] = true
				many++
			}
		}
		if len(told) != many || len(untold) != many {
			t.Errorf("P20.2: %d messages of %d bytes have %d texts, and are the texts of %d", many, n, len(told), len(untold))
		}
	}
}

// differing are how many bits of two rows of one length differ in the piece of them in which fewest do.
func differing(a, b []byte) int {
	fewest := len(a) * 8
	for at := 0; at < len(a); at += 16 {
		many := 0
		// The last piece reaches back, so that each has 16 bytes.
		for i := min(at, len(a)-16); i < min(at+16, len(a)); i++ {
			many += bits.OnesCount8(a[i] ^ b[i])
		}
		fewest = min(fewest, many)
	}
	return fewest
}

// TestEveryBitHangsOnEveryOther turns bits one by one: half of a piece's 128 bits should be others then, and fewer than 30 can't be chance.
func TestEveryBitHangsOnEveryOther(t *testing.T) {
	for _, n := range []int{32, 33, 70, 127, 128} {
		key, tweak, m := varied(16, 40), varied(17, 20), varied(18, n)
		either := func() (there, back []byte) {
			k := keysOf(t, key)
			return turned(t, k, [][]byte{tweak}, m, false), turned(t, k, [][]byte{tweak}, m, true)
		}
		text, plain := either()
		for _, row := range [][]byte{key, tweak, m} {
			for bit := range 8 * len(row) {
				row[bit/8] ^= 1 << (bit % 8)
				there, back := either()
				if differing(text, there) < 30 || differing(plain, back) < 30 {
					t.Errorf("the bit %d of %d bytes turns %d and %d bits of a piece of %d bytes", bit, len(row), differing(text, there), differing(plain, back), n)
				}
				row[bit/8] ^= 1 << (bit % 8)
			}
		}
	}
}

func TestEveryRowHasItsTexts(t *testing.T) {
	k := keysOf(t, varied(19, 48))
	for _, n := range []int{32, 48, 100} {
		told := map[string]bool{}
		for _, row := range rows() {
			told[string(turned(t, k, row, rising(n), false))] = true
		}
		if len(told) != len(rows()) {
			t.Errorf("P20.1: of %d bytes %d rows tell %d texts", n, len(rows()), len(told))
		}
		if !bytes.Equal(turned(t, k, nil, rising(n), false), turned(t, k, [][]byte{}, rising(n), false)) {
			t.Error("R3: the rows nil and of no strings")
		}
		if !bytes.Equal(turned(t, k, [][]byte{nil}, rising(n), false), turned(t, k, [][]byte{{}}, rising(n), false)) {
			t.Error("R3: the strings nil and of no bytes")
		}
	}
}

func TestWhatIsHandedInIsNeitherChangedNorKept(t *testing.T) {
	k := keysOf(t, varied(20, 48))
	for _, n := range []int{32, 33, 47, 48, 49, 63, 64, 65, 96, 120, 150} {
		for _, back := range []bool{false, true} {
			// With room to spare behind the ends, of the message, the strings, and the row.
			m, one, two := varied(21, 200), varied(22, 200), varied(23, 200)
			row := [][]byte{one[:n], two[:n/2], one[:3], two[:9]}
			first, second := turned(t, k, row[:2], m[:n], back), turned(t, k, row[:2], m[:n], back)
			if !bytes.Equal(m, varied(21, 200)) || !bytes.Equal(one, varied(22, 200)) || !bytes.Equal(two, varied(23, 200)) {
				t.Fatalf("R4: %d bytes, strings, or what is behind them, were changed", n)
			}
			if len(row[0]) != n || len(row[1]) != n/2 || len(row[2]) != 3 || len(row[3]) != 9 || &row[0][0] != &one[0] || &row[2][0] != &one[0] || &row[3][0] != &two[0] {
				t.Fatalf("R4: a row with %d bytes, or what is behind it, was changed", n)
			}
			// What stands behind the ends counts nowhere.
			alone := [][]byte{varied(22, n), varied(23, n/2)}
			want := reckoned(k, alone, varied(21, n), back)
			if !bytes.Equal(first, want) || !bytes.Equal(second, want) {
				t.Errorf("R5: %d bytes, back %v: what is behind them counts, or two calls answer two things", n, back)
			}
			clear(second[:cap(second)])
			if !bytes.Equal(m, varied(21, 200)) || !bytes.Equal(first, want) || !bytes.Equal(turned(t, k, alone, varied(21, n), back), want) {
				t.Errorf("R4: %d bytes, back %v: what was handed out is shared", n, back)
			}
			clear(m)
			clear(one)
			clear(two)
			if !bytes.Equal(first, want) {
				t.Errorf("R4: %d bytes, back %v, or strings, were kept", n, back)
			}
		}
	}
}
