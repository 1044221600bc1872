package prime_test

import (
	"bytes"
	"math"
	"math/big"
	"slices"
	"testing"

	"wringer/prime"
)

const (
	limit = 1 << 26 // the least number that is no part in form
	most  = limit - 1
)

// sizes are parts: the least, those around the bounds of a part in form, and the greatest.
var sizes = []uint32{0, 1, limit - 6, limit - 5, most, limit, 1 << 31, math.MaxUint32}

func power(n uint) *big.Int { return new(big.Int).Lsh(big.NewInt(1), n) }

// modulus is 2^130 - 5.
func modulus() *big.Int { return new(big.Int).Sub(power(130), big.NewInt(5)) }

// valueOf adds up a Num's parts, each times the power of its place.
func valueOf(n prime.Num) *big.Int {
	sum := new(big.Int)
	for i, part := range n {
		sum.Add(sum, new(big.Int).Mul(big.NewInt(int64(part)), power(uint(26*i))))
	}
	return sum
}

// numOf divides a value, reckoned modulo 2^130 - 5, by powers of 2^26.
func numOf(value *big.Int) prime.Num {
	rest, part := new(big.Int).Mod(value, modulus()), new(big.Int)
	var n prime.Num
	for i := range n {
		rest.DivMod(rest, big.NewInt(limit), part)
		n[i] = uint32(part.Uint64())
	}
	return n
}

// lowOf are the 16 lowest bytes of a value, the lowest one first.
func lowOf(value *big.Int) [16]byte {
	b := new(big.Int).Mod(value, power(128)).FillBytes(make([]byte, 16))
	slices.Reverse(b)
	return [16]byte(b)
}

func full() [16]byte { return [16]byte(bytes.Repeat([]byte{255}, 16)) }

// varied are n numbers that hang on another one.
func varied(seed uint64, n int) []uint32 {
	out := make([]uint32, n)
	for i := range out {
		seed = seed*6364136223846793005 + 1442695040888963407
		out[i] = uint32(seed >> 32)
	}
	return out
}

// nums are some that are in form, and some that are not: around 0, 2^130 - 5, 2^130 and multiples of them, of the greatest parts, and of any.
func nums() []prime.Num {
	all := []prime.Num{
		{}, {1}, {4}, {5}, {6}, {most}, {limit}, {math.MaxUint32},
		{limit - 7, most, most, most, most}, {limit - 6, most, most, most, most},
		{limit - 5, most, most, most, most}, {limit - 4, most, most, most, most},
		{most, most, most, most, most}, {limit, most, most, most, most},
		{0, 0, 0, 0, limit}, {0, 0, 0, 0, limit - 1}, {most, most, most, most, limit},
		{0, 0, 0, 0, 1 << 24}, {0, 0, 0, 0, 1 << 25}, {most, most, most, most, 1<<24 - 1},
		{math.MaxUint32, math.MaxUint32, math.MaxUint32, math.MaxUint32, math.MaxUint32},
		{0, math.MaxUint32}, {0, 0, math.MaxUint32}, {0, 0, 0, math.MaxUint32}, {0, 0, 0, 0, math.MaxUint32},
		{1 << 31, 1 << 31, 1 << 31, 1 << 31, 1 << 31}, {limit, limit, limit, limit, limit},
		{limit - 5, limit - 1, limit, limit + 1, limit - 1}, {0, 1}, {0, 0, 1}, {0, 0, 0, 1},
	}
	parts := varied(1, 80)
	for i := 0; i < len(parts); i += 5 {
		n := prime.Num(parts[i : i+5])
		all = append(all, n)
		for j := range n {
			n[j] %= limit
		}
		all = append(all, n)
	}
	return all
}

// checkForm holds what was answered against the Num of a value.
func checkForm(t *testing.T, what string, got prime.Num, value *big.Int) {
	t.Helper()
	if got != numOf(value) {
		t.Fatalf("%s: %v, not %v", what, got, numOf(value))
	}
	for _, part := range got {
		if part >= limit || valueOf(got).Cmp(modulus()) >= 0 {
			t.Fatalf("%s: %v is not in form", what, got)
		}
	}
}

func TestFormOfTheExamples(t *testing.T) {
	if n := (prime.Num{0, 0, 0, 0, 67108864}).Form(); n != (prime.Num{5, 0, 0, 0, 0}) {
		t.Errorf("P7.1: Form of 2^130: %v", n)
	}
	if n := prime.Of(full(), 3); n != (prime.Num{4, 0, 0, 0, 0}) {
		t.Errorf("P7.1: Of 2^130 - 1: %v", n)
	}
}

// TestFormAroundTheModulus goes by values that are counted from 2^130 - 5 on, down and up.
func TestFormAroundTheModulus(t *testing.T) {
	for _, c := range []struct{ in, want prime.Num }{
		{prime.Num{limit - 7, most, most, most, most}, prime.Num{limit - 7, most, most, most, most}},
		{prime.Num{limit - 6, most, most, most, most}, prime.Num{limit - 6, most, most, most, most}},
		{prime.Num{limit - 5, most, most, most, most}, prime.Num{}},
		{prime.Num{limit - 4, most, most, most, most}, prime.Num{1}},
		{prime.Num{limit - 1, most, most, most, most}, prime.Num{4}},
		{prime.Num{limit, most, most, most, most}, prime.Num{5}},
		{prime.Num{limit + 1, most, most, most, most}, prime.Num{6}},
		// The last four of these five parts are not the greatest ones.
		{prime.Num{most, most, most, most, most - 1}, prime.Num{most, most, most, most, most - 1}},
		{prime.Num{most, most - 1, most, most, most}, prime.Num{most, most - 1, most, most, most}},
		// Twice 2^130 - 5, one less and one more.
		{prime.Num{2*limit - 11, most - 1, most, most, 2*limit - 1}, prime.Num{limit - 6, most, most, most, most}},
		{prime.Num{2*limit - 10, most - 1, most, most, 2*limit - 1}, prime.Num{}},
		{prime.Num{2*limit - 9, most - 1, most, most, 2*limit - 1}, prime.Num{1}},
		// The carry that goes round brings another one through all parts.
		{prime.Num{limit - 5, most, most, most, limit + most}, prime.Num{5}},
		{prime.Num{limit - 10, most, most, most, limit + most}, prime.Num{}},
		{prime.Num{limit - 11, most, most, most, limit + most}, prime.Num{limit - 6, most, most, most, most}},
	} {
		if got := c.in.Form(); got != c.want {
			t.Errorf("P7.1: Form of %v: %v, not %v", c.in, got, c.want)
		}
	}
}

// TestFormOfAllEdges puts each of the sizes in each of the places.
func TestFormOfAllEdges(t *testing.T) {
	var n prime.Num
	count := 1
	for range n {
		count *= len(sizes)
	}
	for c := range count {
		for i := range n {
			n[i] = sizes[c%len(sizes)]
			c /= len(sizes)
		}
		checkForm(t, "P7.1: Form", n.Form(), valueOf(n))
		if n.Low() != lowOf(valueOf(n.Form())) {
			t.Fatalf("P7.2: Low of %v: %x", n, n.Low())
		}
	}
}

func TestFormOfForm(t *testing.T) {
	for _, n := range nums() {
		f := n.Form()
		checkForm(t, "P7.1: Form", f, valueOf(n))
		if f.Form() != f {
			t.Errorf("P7.1: Form of %v, which is in form: %v", f, f.Form())
		}
	}
}

func TestOfBytes(t *testing.T) {
	rows := [][16]byte{{}, full(), {1}, {15: 128}, {0: 251}, {250}}
	for i := range 128 {
		var b [16]byte
		b[i/8] = 1 << (i % 8)
		rows = append(rows, b)
		for j := range b {
			b[j] = ^b[j]
		}
		rows = append(rows, b)
	}
	highs := []uint32{0, 1, 2, 3, 4, 5, 7, 8, 1 << 24, 1<<26 - 1, 1 << 26, math.MaxUint32 - 1, math.MaxUint32}
	for i := range 32 {
		highs = append(highs, 1<<i)
	}
	for _, b := range rows {
		value := new(big.Int)
		for i, x := range b {
			value.Add(value, new(big.Int).Mul(big.NewInt(int64(x)), power(uint(8*i))))
		}
		for _, high := range highs {
			whole := new(big.Int).Add(value, new(big.Int).Mul(big.NewInt(int64(high)), power(128)))
			checkForm(t, "P7.1: Of", prime.Of(b, high), whole)
		}
	}
}

func TestOfAroundTheModulus(t *testing.T) {
	for last := 245; last <= 255; last++ {
		b := full()
		b[0] = byte(last)
		want := prime.Num{uint32(last - 251)}
		if last < 251 {
			want = prime.Num{limit - 256 + uint32(last), most, most, most, most}
		}
		if got := prime.Of(b, 3); got != want {
			t.Errorf("P7.1: Of 2^130 - %d: %v, not %v", 256-last, got, want)
		}
	}
	if got := prime.Of([16]byte{}, 4); got != (prime.Num{5}) {
		t.Errorf("P7.1, P7.3: Of 2^130: %v", got)
	}
}

func TestSumsAndProductsOfMany(t *testing.T) {
	all := nums()
	for _, n := range all {
		for _, m := range all {
			checkForm(t, "P7.1: Plus", n.Plus(m), new(big.Int).Add(valueOf(n), valueOf(m)))
			checkForm(t, "P7.1: Times", n.Times(m), new(big.Int).Mul(valueOf(n), valueOf(m)))
		}
	}
}

func TestSumsAndProductsOfTheGreatest(t *testing.T) {
	var n prime.Num
	for i := range n {
		n[i] = math.MaxUint32
	}
	checkForm(t, "P7.1: Plus of the greatest parts", n.Plus(n), new(big.Int).Add(valueOf(n), valueOf(n)))
	checkForm(t, "P7.1: Times of the greatest parts", n.Times(n), new(big.Int).Mul(valueOf(n), valueOf(n)))
	least := prime.Num{limit - 6, most, most, most, most} // -1
	if got := least.Times(least); got != (prime.Num{1}) {
		t.Errorf("P7.1: the greatest in form, times itself: %v", got)
	}
	if got := least.Plus(prime.Num{1}); got != (prime.Num{}) {
		t.Errorf("P7.1: the greatest in form, and 1: %v", got)
	}
	if got := least.Plus(least); got != (prime.Num{limit - 7, most, most, most, most}) {
		t.Errorf("P7.1: the greatest in form, twice: %v", got)
	}
	if got := (prime.Num{limit - 5, most, most, most, most}).Times(n); got != (prime.Num{}) {
		t.Errorf("P7.1: a product with 2^130 - 5: %v", got)
	}
}

func TestProductsOfPowersOfTwo(t *testing.T) {
	for i := range uint(130) {
		for j := range uint(130) {
			got := numOf(power(i)).Times(numOf(power(j)))
			if got != numOf(power(i+j)) {
				t.Fatalf("P7.1: 2^%d times 2^%d: %v", i, j, got)
			}
		}
	}
}

func TestLow(t *testing.T) {
	for _, c := range []struct {
		in   prime.Num
		want [16]byte
	}{
		{prime.Num{}, [16]byte{}},
		{prime.Num{0x1020304}, [16]byte{4, 3, 2, 1}},
		{prime.Num{0, 0, 0, 0, 1<<24 - 1}, [16]byte{13: 255, 14: 255, 15: 255}},
		{prime.Num{most, most, most, most, 1<<24 - 1}, full()},
		// 2^128 and what stands above it falls out.
		{prime.Num{0, 0, 0, 0, 1 << 24}, [16]byte{}},
		{prime.Num{9, 0, 0, 0, 3 << 24}, [16]byte{9}},
		{prime.Num{limit - 6, most, most, most, most}, [16]byte(append([]byte{250}, bytes.Repeat([]byte{255}, 15)...))},
		// What is not in form is put in form first.
		{prime.Num{limit - 5, most, most, most, most}, [16]byte{}},
		{prime.Num{most, most, most, most, most}, [16]byte{4}},
		{prime.Num{0, 0, 0, 0, limit}, [16]byte{5}},
		{prime.Num{math.MaxUint32}, [16]byte{255, 255, 255, 255}},
	} {
		if got := c.in.Low(); got != c.want {
			t.Errorf("P7.2: Low of %v: %v, not %v", c.in, got, c.want)
		}
	}
	for _, n := range nums() {
		want := lowOf(new(big.Int).Mod(valueOf(n), modulus()))
		if n.Low() != want || n.Form().Low() != want {
			t.Errorf("P7.2: Low of %v: %x, not %x", n, n.Low(), want)
		}
	}
	for i := range uint(130) {
		if got := numOf(power(i)).Low(); got != lowOf(power(i)) {
			t.Errorf("P7.2: Low of 2^%d: %v", i, got)
		}
	}
}

func TestNumbersOf128BitsAreToldAsTheyWere(t *testing.T) {
	rows := [][16]byte{{}, full(), {1}, {15: 128}, {7: 255, 8: 255}}
	for seed := range uint64(50) {
		var b [16]byte
		for i, n := range varied(seed, 16) {
			b[i] = byte(n)
		}
		rows = append(rows, b)
	}
	for _, b := range rows {
		if got := prime.Of(b, 0).Low(); got != b {
			t.Errorf("P7.3: %v is told as %v", b, got)
		}
	}
}

func TestSumsAndProductsHangOnNoOrder(t *testing.T) {
	all := nums()
	for i, a := range all {
		b, c := all[(7*i+3)%len(all)], all[(11*i+5)%len(all)]
		if a.Plus(b) != b.Plus(a) || a.Times(b) != b.Times(a) {
			t.Errorf("P7.3: %v and %v, in the other order", a, b)
		}
		if a.Plus(b).Plus(c) != a.Plus(b.Plus(c)) || a.Times(b).Times(c) != a.Times(b.Times(c)) {
			t.Errorf("P7.3: %v, %v and %v, the last two first", a, b, c)
		}
		if a.Times(b.Plus(c)) != a.Times(b).Plus(a.Times(c)) {
			t.Errorf("P7.3: %v times the sum of %v and %v", a, b, c)
		}
		if a.Plus(prime.Num{}) != a.Form() || a.Times(prime.Num{1}) != a.Form() || a.Times(prime.Num{}) != (prime.Num{}) {
			t.Errorf("P7.3: %v with 0 and 1", a)
		}
	}
}

// TestProductsTellWhichOne goes back from a product by the other one's power of 2^130 - 7, its inverse.
func TestProductsTellWhichOne(t *testing.T) {
	exponent := new(big.Int).Sub(modulus(), big.NewInt(2))
	all := nums()
	for i, b := range all {
		if b.Form() == (prime.Num{}) {
			continue
		}
		inverse := prime.Num{1}
		for bit := exponent.BitLen() - 1; bit >= 0; bit-- {
			inverse = inverse.Times(inverse)
			if exponent.Bit(bit) == 1 {
				inverse = inverse.Times(b)
			}
		}
		if b.Times(inverse) != (prime.Num{1}) {
			t.Fatalf("P7.3: %v has no inverse", b)
		}
		a := all[(13*i+1)%len(all)]
		if a.Times(b).Times(inverse) != a.Form() {
			t.Errorf("P7.3: the product with %v does not tell %v", b, a)
		}
	}
}

func TestNumsAreNotChanged(t *testing.T) {
	n := prime.Num{math.MaxUint32, math.MaxUint32, 3, 4, math.MaxUint32}
	m, b := prime.Num{most, most, most, most, most}, full()
	oldN, oldM := n, m
	for range 2 {
		n.Form()
		n.Plus(m)
		n.Times(m)
		n.Low()
		prime.Of(b, 7)
	}
	if n != oldN || m != oldM || b != full() {
		t.Error("R4: what was handed in was changed")
	}
	if n.Times(m) != n.Times(m) || n.Plus(m) != n.Plus(m) || prime.Of(b, 7) != prime.Of(b, 7) {
		t.Error("R5: two calls answer two things")
	}
}
