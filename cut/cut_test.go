package cut_test

import (
	"bytes"
	"encoding/hex"
	"math"
	"slices"
	"testing"

	"wringer/api"
	"wringer/cut"
)

// kinds reckons of each byte (of AEZ's short messages of each half byte) whose it is, from its place alone.
func kinds(alg, n int) []int {
	switch {
	case alg == api.Adiantum:
		return each(n, func(at int) int {
			if at >= n-16 {
				return cut.Right
			}
			return cut.Bulk
		})
	case alg == api.HCTR2:
		return each(n, func(at int) int {
			if at < 16 {
				return cut.Left
			}
			return cut.Bulk
		})
	case n < 32:
		return each(2*n, func(at int) int {
			if at < n {
				return cut.Front
			}
			return cut.Back
		})
	}
	paired := n/32*32 - 32
	return each(n, func(at int) int {
		switch {
		case at >= n-16:
			return cut.Y
		case at >= n-32:
			return cut.X
		case at >= paired+16:
			return cut.V
		case at >= paired:
			return cut.U
		case at/16%2 == 1:
			return cut.Second
		}
		return cut.First
	})
}

func each(n int, kind func(at int) int) []int {
	all := make([]int, n)
	for at := range all {
		all[at] = kind(at)
	}
	return all
}

// parts are runs of one kind, and those that have nothing and are parts all the same.
func parts(alg, n int) []cut.Part {
	var out []cut.Part
	all := kinds(alg, n)
	for at := 0; at < len(all); {
		end := at
		for end < len(all) && all[end] == all[at] {
			end++
		}
		out = append(out, cut.Part{Kind: all[at], At: complex(float64(at), float64(end-at))})
		at = end
	}
	switch {
	case alg == api.Adiantum && n == 16:
		out = slices.Insert(out, 0, cut.Part{Kind: cut.Bulk})
	case alg == api.HCTR2 && n == 16:
		out = append(out, cut.Part{Kind: cut.Bulk, At: 16})
	case alg == api.AEZ && n > 32 && n%32 == 16:
		out = slices.Insert(out, len(out)-2, cut.Part{Kind: cut.V, At: complex(float64(n-32), 0)})
	}
	return out
}

// varied are n bytes that hang on a number.
func varied(seed uint32, n int) []byte {
	b := make([]byte, n)
	for i := range b {
		seed = seed*1664525 + 1013904223
		b[i] = byte(seed >> 24)
	}
	return b
}

// lengths are all short ones, and around the greatest one.
func lengths() []int {
	var all []int
	for n := range 700 {
		all = append(all, n)
	}
	for n := 65536 - 70; n <= 65536; n++ {
		all = append(all, n)
	}
	return append(all, 4095, 4096, 4097, 32767, 32768)
}

func fewest(alg int) int {
	if alg == api.AEZ {
		return 1
	}
	return 16
}

var schemes = []int{api.Adiantum, api.HCTR2, api.AEZ}

func partsOf(t *testing.T, alg, n int) []cut.Part {
	t.Helper()
	l, e := cut.Parts(alg, n)
	if e != api.OK {
		t.Fatalf("P14.1: the parts of scheme %d and %d: error %d", alg, n, e)
	}
	return l
}

func TestKindsAreNumbered(t *testing.T) {
	got := []int{cut.Bulk, cut.Right, cut.Left, cut.First, cut.Second, cut.U, cut.V, cut.X, cut.Y, cut.Front, cut.Back}
	for i, kind := range got {
		if kind != i+1 {
			t.Errorf("P14.1: the kind %d is %d", i+1, kind)
		}
	}
}

func TestExamples(t *testing.T) {
	want := []cut.Part{{Kind: cut.First, At: 16i}, {Kind: cut.Second, At: 16 + 16i}, {Kind: cut.U, At: 32 + 16i}, {Kind: cut.V, At: 48 + 5i}, {Kind: cut.X, At: 53 + 16i}, {Kind: cut.Y, At: 69 + 16i}}
	if got := partsOf(t, api.AEZ, 85); !slices.Equal(got, want) {
		t.Errorf("P14.1: the first example: %v", got)
	}
	if got, is := cut.Of([]byte("abcdef"), 2+3i); !is || string(got) != "cde" {
		t.Errorf("P14.2: the second example: %q, %v", got, is)
	}
	if got, is := cut.Halves([]byte{171}, 1+1i); !is || !bytes.Equal(got, []byte{11}) {
		t.Errorf("P14.2: the third example: %v, %v", got, is)
	}
}

// TestPartsAtTheEdges are written out by hand from the chapter's table.
func TestPartsAtTheEdges(t *testing.T) {
	type row = []cut.Part
	for _, c := range []struct {
		alg, n int
		want   row
	}{
		{api.Adiantum, 16, row{{cut.Bulk, 0}, {cut.Right, 16i}}},
		{api.Adiantum, 17, row{{cut.Bulk, 1i}, {cut.Right, 1 + 16i}}},
		{api.Adiantum, 31, row{{cut.Bulk, 15i}, {cut.Right, 15 + 16i}}},
		{api.Adiantum, 32, row{{cut.Bulk, 16i}, {cut.Right, 16 + 16i}}},
		{api.Adiantum, 33, row{{cut.Bulk, 17i}, {cut.Right, 17 + 16i}}},
		{api.Adiantum, 65536, row{{cut.Bulk, 65520i}, {cut.Right, 65520 + 16i}}},
		{api.HCTR2, 16, row{{cut.Left, 16i}, {cut.Bulk, 16}}},
		{api.HCTR2, 17, row{{cut.Left, 16i}, {cut.Bulk, 16 + 1i}}},
		{api.HCTR2, 31, row{{cut.Left, 16i}, {cut.Bulk, 16 + 15i}}},
		{api.HCTR2, 32, row{{cut.Left, 16i}, {cut.Bulk, 16 + 16i}}},
		{api.HCTR2, 33, row{{cut.Left, 16i}, {cut.Bulk, 16 + 17i}}},
		{api.HCTR2, 65536, row{{cut.Left, 16i}, {cut.Bulk, 16 + 65520i}}},
		{api.AEZ, 1, row{{cut.Front, 1i}, {cut.Back, 1 + 1i}}},
		{api.AEZ, 15, row{{cut.Front, 15i}, {cut.Back, 15 + 15i}}},
		{api.AEZ, 16, row{{cut.Front, 16i}, {cut.Back, 16 + 16i}}},
		{api.AEZ, 17, row{{cut.Front, 17i}, {cut.Back, 17 + 17i}}},
		{api.AEZ, 31, row{{cut.Front, 31i}, {cut.Back, 31 + 31i}}},
		{api.AEZ, 32, row{{cut.X, 16i}, {cut.Y, 16 + 16i}}},
		{api.AEZ, 33, row{{cut.U, 1i}, {cut.X, 1 + 16i}, {cut.Y, 17 + 16i}}},
		{api.AEZ, 47, row{{cut.U, 15i}, {cut.X, 15 + 16i}, {cut.Y, 31 + 16i}}},
		{api.AEZ, 48, row{{cut.U, 16i}, {cut.V, 16}, {cut.X, 16 + 16i}, {cut.Y, 32 + 16i}}},
		{api.AEZ, 49, row{{cut.U, 16i}, {cut.V, 16 + 1i}, {cut.X, 17 + 16i}, {cut.Y, 33 + 16i}}},
		{api.AEZ, 63, row{{cut.U, 16i}, {cut.V, 16 + 15i}, {cut.X, 31 + 16i}, {cut.Y, 47 + 16i}}},
		{api.AEZ, 64, row{{cut.First, 16i}, {cut.Second, 16 + 16i}, {cut.X, 32 + 16i}, {cut.Y, 48 + 16i}}},
		{api.AEZ, 65, row{{cut.First, 16i}, {cut.Second, 16 + 16i}, {cut.U, 32 + 1i}, {cut.X, 33 + 16i}, {cut.Y, 49 + 16i}}},
		{api.AEZ, 80, row{{cut.First, 16i}, {cut.Second, 16 + 16i}, {cut.U, 32 + 16i}, {cut.V, 48}, {cut.X, 48 + 16i}, {cut.Y, 64 + 16i}}},
	} {
		if got := partsOf(t, c.alg, c.n); !slices.Equal(got, c.want) {
			t.Errorf("P14.1: the parts of scheme %d and %d: %v, not %v", c.alg, c.n, got, c.want)
		}
	}
}

func TestPartsOfAllLengths(t *testing.T) {
	for _, alg := range schemes {
		for _, n := range lengths() {
			if n < fewest(alg) {
				continue
			}
			if got := partsOf(t, alg, n); !slices.Equal(got, parts(alg, n)) {
				t.Errorf("P14.1: the parts of scheme %d and %d: %v", alg, n, got)
			}
		}
	}
}

func TestManyPairs(t *testing.T) {
	if l := partsOf(t, api.AEZ, 65536); len(l) != 4096 || l[4093] != (cut.Part{Kind: cut.Second, At: 65488 + 16i}) || l[4095] != (cut.Part{Kind: cut.Y, At: 65520 + 16i}) {
		t.Errorf("P14.1: the greatest length has %d parts, and ends in %v", len(l), l[len(l)-3:])
	}
	if l := partsOf(t, api.AEZ, 65535); len(l) != 4096 || l[4093] != (cut.Part{Kind: cut.V, At: 65488 + 15i}) {
		t.Errorf("P14.1: one byte less has %d parts, and ends in %v", len(l), l[len(l)-3:])
	}
}

func TestPartsThatThereAreNot(t *testing.T) {
	below := []int{math.MinInt, -65536, -32, -17, -16, -1, 0}
	above := []int{65537, 65538, 65568, 1 << 20, math.MaxInt32, math.MaxInt - 31, math.MaxInt}
	refused := func(alg, n int, want api.Errno) {
		if l, e := cut.Parts(alg, n); e != want || len(l) != 0 {
			t.Errorf("P14.1, R2: the parts of scheme %d and %d: %v, error %d, not %d", alg, n, l, e, want)
		}
	}
	for _, alg := range schemes {
		for _, n := range below {
			refused(alg, n, api.ErrShort)
		}
		for _, n := range above {
			refused(alg, n, api.ErrLong)
		}
	}
	for n := 1; n < 16; n++ {
		refused(api.Adiantum, n, api.ErrShort)
		refused(api.HCTR2, n, api.ErrShort)
		partsOf(t, api.AEZ, n)
	}
	// Whatever the length is, no scheme is named first.
	for _, alg := range []int{math.MinInt, -3, -1, 0, 4, 5, 16, 256 + 1, 1<<32 + 1, math.MaxInt} {
		for _, n := range slices.Concat(below, above, []int{1, 15, 16, 17, 31, 32, 33, 64, 65536}) {
			refused(alg, n, api.ErrAlg)
		}
	}
}

func TestPartsAreTheWholeMessage(t *testing.T) {
	for _, alg := range schemes {
		for _, n := range lengths() {
			if n < fewest(alg) {
				continue
			}
			b := varied(uint32(n), n)
			short := alg == api.AEZ && n < 32
			var whole []byte
			end := 0.0
			for _, part := range partsOf(t, alg, n) {
				if real(part.At) != end {
					t.Fatalf("P14.3: of scheme %d and %d %v does not begin at %v", alg, n, part, end)
				}
				end += imag(part.At)
				take := cut.Of
				if short {
					take = cut.Halves
				}
				piece, is := take(b, part.At)
				if !is || float64(len(piece)) != imag(part.At) {
					t.Fatalf("P14.3: of scheme %d and %d %v is no cut", alg, n, part)
				}
				whole = append(whole, piece...)
			}
			if short {
				whole = cut.Join(whole)
			}
			if !bytes.Equal(whole, b) {
				t.Errorf("P14.3: of scheme %d and %d the parts are not the whole", alg, n)
			}
		}
	}
}

// halved are the half bytes of b, read from its hexadecimal figures.
func halved(b []byte) []byte {
	out := []byte(hex.EncodeToString(b))
	for i, figure := range out {
		if figure >= 'a' {
			out[i] = figure - 'a' + 10
		} else {
			out[i] = figure - '0'
		}
	}
	return out
}

// looked holds what a call answers of a cut against the things that stand there.
func looked(t *testing.T, name string, take func([]byte, complex128) ([]byte, bool), b, things []byte, c complex128) {
	t.Helper()
	at, many := real(c), imag(c)
	is := at >= 0 && many >= 0 && at == math.Floor(at) && many == math.Floor(many) && at+many <= float64(len(things))
	var want []byte
	if is {
		want = things[int(at) : int(at)+int(many)]
	}
	if got, ok := take(b, c); ok != is || !bytes.Equal(got, want) {
		t.Errorf("P14.2: %s of %x by %v: %x, %v", name, b, c, got, ok)
	}
}

// TestCutsOfFewThings goes through all cuts around the bounds, by halves.
func TestCutsOfFewThings(t *testing.T) {
	for n := range 6 {
		b := varied(1, n)
		for at := -2.0; at <= float64(2*n)+2; at += 0.5 {
			for many := -2.0; many <= float64(2*n)+2; many += 0.5 {
				looked(t, "Of", cut.Of, b, b, complex(at, many))
				looked(t, "Halves", cut.Halves, b, halved(b), complex(at, many))
			}
		}
	}
}

func TestNumbersThatAreNoCuts(t *testing.T) {
	inf, nan := math.Inf(1), math.NaN()
	bad := []float64{-1, -0.5, -math.SmallestNonzeroFloat64, math.SmallestNonzeroFloat64, 0.5, 0.999999999999, 1.0000000000000002, 5.999999999999999, 6.000000000000001, 13, 1 << 31, 1 << 32, 1 << 53, 1 << 62, 1 << 63, 1 << 64, 1e19, 1e300, math.MaxFloat64, -1 << 63, -1e300, inf, -inf, nan}
	b := []byte("abcdef")
	for _, x := range bad {
		for _, y := range slices.Concat([]float64{0, 1, 2, 6, 12}, bad) {
			for _, c := range []complex128{complex(x, y), complex(y, x)} {
				if got, is := cut.Of(b, c); is || len(got) != 0 {
					t.Errorf("P14.2, R2: Of by %v: %q, %v", c, got, is)
				}
				if got, is := cut.Halves(b, c); is || len(got) != 0 {
					t.Errorf("P14.2, R2: Halves by %v: %x, %v", c, got, is)
				}
				if got, is := cut.Of(nil, c); is || len(got) != 0 {
					t.Errorf("P14.2, R3: Of nothing by %v: %q, %v", c, got, is)
				}
				if got, is := cut.Halves(nil, c); is || len(got) != 0 {
					t.Errorf("P14.2, R3: Halves of nothing by %v: %x, %v", c, got, is)
				}
			}
		}
	}
}

func TestPlacesBeyondTheEnd(t *testing.T) {
	b := []byte("abcdef")
	for _, c := range []complex128{7, 6 + 1i, 5 + 2i, 1 + 6i, 7i, 6 + 6i, 100, 100i} {
		if got, is := cut.Of(b, c); is || len(got) != 0 {
			t.Errorf("P14.2: Of by %v: %q, %v", c, got, is)
		}
		if got, is := cut.Halves(b, 2*c); is || len(got) != 0 {
			t.Errorf("P14.2: Halves by %v: %x, %v", 2*c, got, is)
		}
	}
	// Half bytes are twice as many, and no more.
	for _, c := range []complex128{13, 12 + 1i, 11 + 2i, 1 + 12i, 13i} {
		if got, is := cut.Halves(b, c); is || len(got) != 0 {
			t.Errorf("P14.2: Halves by %v: %x, %v", c, got, is)
		}
	}
	// What stands in the spare room behind the end is none of it.
	if got, is := cut.Of(b[:3], 2+2i); is || len(got) != 0 {
		t.Errorf("P14.2: Of three bytes by 2+2i: %q, %v", got, is)
	}
	if got, is := cut.Halves(b[:3], 5+2i); is || len(got) != 0 {
		t.Errorf("P14.2: Halves of three bytes by 5+2i: %x, %v", got, is)
	}
}

func TestCutsOfNothing(t *testing.T) {
	minus := math.Copysign(0, -1)
	for _, b := range [][]byte{nil, {}, []byte("abc")[:0], []byte("abc")} {
		// Less nought is nought.
		for _, c := range []complex128{0, complex(minus, minus), complex(0, minus), complex(minus, 0), complex(float64(len(b)), 0)} {
			if got, is := cut.Of(b, c); !is || len(got) != 0 {
				t.Errorf("P14.2, R3: Of %d bytes by %v: %q, %v", len(b), c, got, is)
			}
			if got, is := cut.Halves(b, 2*c); !is || len(got) != 0 {
				t.Errorf("P14.2, R3: Halves of %d bytes by %v: %x, %v", len(b), 2*c, got, is)
			}
		}
	}
	if got, is := cut.Of([]byte("abc"), complex(minus, 2)); !is || string(got) != "ab" {
		t.Errorf("P14.2: Of by a place less nought: %q, %v", got, is)
	}
}

func TestLongCuts(t *testing.T) {
	b := varied(2, 65536)
	for _, c := range []complex128{0, 65536i, 1 + 65535i, 32768 + 32768i, 65535 + 1i, 65536, 65520 + 16i, 65536 + 1i, 1 + 65536i, 65537} {
		looked(t, "Of", cut.Of, b, b, c)
		looked(t, "Halves", cut.Halves, b, halved(b), c)
		looked(t, "Halves", cut.Halves, b, halved(b), 2*c)
	}
}

func TestHalves(t *testing.T) {
	for a := range 256 {
		b := []byte{byte(a)}
		if got, is := cut.Halves(b, 2i); !is || !bytes.Equal(got, []byte{byte(a / 16), byte(a % 16)}) {
			t.Errorf("P14.2: the half bytes of %d: %v, %v", a, got, is)
		}
		if got, is := cut.Halves(b, 1i); !is || !bytes.Equal(got, []byte{byte(a / 16)}) {
			t.Errorf("P14.2: the first half byte of %d: %v, %v", a, got, is)
		}
		if got, is := cut.Halves(b, 1+1i); !is || !bytes.Equal(got, []byte{byte(a % 16)}) {
			t.Errorf("P14.2: the second half byte of %d: %v, %v", a, got, is)
		}
	}
	if got, is := cut.Halves([]byte{0x12, 0x34, 0x56}, 1+4i); !is || !bytes.Equal(got, []byte{2, 3, 4, 5}) {
		t.Errorf("P14.2: half bytes from an odd place on: %v, %v", got, is)
	}
}

func TestJoin(t *testing.T) {
	for a := range 256 {
		for b := range 256 {
			if got := cut.Join([]byte{byte(a), byte(b)}); len(got) != 1 || int(got[0]) != a%16*16+b%16 {
				t.Errorf("P14.2: %d and %d are joined to %v", a, b, got)
			}
		}
		if got := cut.Join([]byte{byte(a)}); len(got) != 1 || int(got[0]) != a%16*16 {
			t.Errorf("P14.2: %d alone is joined to %v", a, got)
		}
	}
	for _, c := range []struct{ halves, want []byte }{
		{nil, nil},
		{[]byte{}, nil},
		{[]byte{10, 27, 12}, []byte{0xab, 0xc0}},
		{[]byte{0xf1, 0xf2, 0xf3, 0xf4, 0xf5}, []byte{0x12, 0x34, 0x50}},
		{[]byte{0, 0, 0}, []byte{0, 0}},
		{[]byte{255, 255, 255}, []byte{255, 240}},
	} {
		if got := cut.Join(c.halves); !bytes.Equal(got, c.want) {
			t.Errorf("P14.2, R3: %v are joined to %x, not %x", c.halves, got, c.want)
		}
	}
}

func TestHalfBytesJoinedAreTheBytes(t *testing.T) {
	for n := range 70 {
		for _, b := range [][]byte{make([]byte, n), bytes.Repeat([]byte{255}, n), varied(uint32(n), n)} {
			all, is := cut.Halves(b, complex(0, float64(2*n)))
			if !is || !bytes.Equal(all, halved(b)) || !bytes.Equal(cut.Join(all), b) {
				t.Errorf("P14.3: %x: half bytes %x, joined %x", b, all, cut.Join(all))
			}
		}
		// And the way back: of an odd number a half byte 0 comes behind.
		halves := halved(varied(uint32(n), n))[:n]
		back, is := cut.Halves(cut.Join(halves), complex(0, float64(n+n%2)))
		if !is || !bytes.Equal(back[:n], halves) || n%2 == 1 && back[n] != 0 {
			t.Errorf("P14.3: %x, joined, has the half bytes %x", halves, back)
		}
	}
}

func TestWhatIsHandedInIsNeitherChangedNorKept(t *testing.T) {
	calls := map[string]func(b []byte) []byte{
		"Of":     func(b []byte) []byte { out, _ := cut.Of(b, 3+5i); return out },
		"all Of": func(b []byte) []byte { out, _ := cut.Of(b, complex(0, float64(len(b)))); return out },
		"no Of":  func(b []byte) []byte { out, _ := cut.Of(b, 2); return out },
		"Halves": func(b []byte) []byte { out, _ := cut.Halves(b, 3+6i); return out },
		"all Halves": func(b []byte) []byte {
			out, _ := cut.Halves(b, complex(0, float64(2*len(b))))
			return out
		},
		"Join": cut.Join,
	}
	for name, call := range calls {
		for _, n := range []int{1, 2, 8, 9, 20} {
			// With room to spare behind the end.
			b := varied(3, 40)
			one, two := call(b[:n]), call(b[:n])
			if !bytes.Equal(b, varied(3, 40)) {
				t.Errorf("R4: %s: %d bytes, or what is behind them, were changed", name, n)
			}
			if !bytes.Equal(one, two) {
				t.Errorf("R5: %s of %d bytes: two calls answer two things", name, n)
			}
			kept := bytes.Clone(one)
			two = two[:cap(two)]
			for i := range two {
				two[i] ^= 255
			}
			if !bytes.Equal(b, varied(3, 40)) || !bytes.Equal(one, kept) {
				t.Errorf("R4: %s of %d bytes: what was handed out is shared", name, n)
			}
			clear(b)
			if !bytes.Equal(one, kept) {
				t.Errorf("R4: %s: %d bytes were kept", name, n)
			}
		}
	}
}

func TestPartsShareNothing(t *testing.T) {
	for _, alg := range schemes {
		for _, n := range []int{16, 31, 32, 48, 85, 1000} {
			one, two := partsOf(t, alg, n), partsOf(t, alg, n)
			clear(two[:cap(two)])
			if !slices.Equal(one, parts(alg, n)) || !slices.Equal(partsOf(t, alg, n), one) {
				t.Errorf("R4, R5: the parts of scheme %d and %d are shared", alg, n)
			}
		}
	}
}
