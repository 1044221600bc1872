package turn_test

import (
	"testing"

	"wringer/gf"
	"wringer/turn"
)

// block makes blocks that are all told apart, by stirring a number.
func block(n uint32) [16]byte {
	var b [16]byte
	for i := range b {
		n = n*1664525 + 1013904223
		b[i] = byte(n >> 24)
	}
	return b
}

// rising is 0 1 2 .. 15.
func rising() [16]byte {
	var b [16]byte
	for i := range b {
		b[i] = byte(i)
	}
	return b
}

// grid is a block by rows and columns.
type grid [4][4]byte

func gridOf(b [16]byte) grid {
	var g grid
	for i, a := range b {
		g[i%4][i/4] = a
	}
	return g
}

func (g grid) block() [16]byte {
	var b [16]byte
	for r, row := range g {
		for c, a := range row {
			b[4*c+r] = a
		}
	}
	return b
}

// boxed, shifted, mixed and keyed are the steps of a round, one by one, as the chapter words them.
func (g grid) boxed() grid {
	boxes := gf.Make()
	for r := range g {
		for c := range g[r] {
			g[r][c] = boxes.To(g[r][c])
		}
	}
	return g
}

func (g grid) shifted() grid {
	for r, row := range g {
		for range r {
			row = [4]byte{row[1], row[2], row[3], row[0]}
		}
		g[r] = row
	}
	return g
}

func (g grid) mixed() grid {
	two := func(a byte) byte { return gf.Times(2, a) }
	three := func(a byte) byte { return gf.Times(3, a) }
	for c := range 4 {
		a0, a1, a2, a3 := g[0][c], g[1][c], g[2][c], g[3][c]
		g[0][c] = two(a0) ^ three(a1) ^ a2 ^ a3
		g[1][c] = a0 ^ two(a1) ^ three(a2) ^ a3
		g[2][c] = a0 ^ a1 ^ two(a2) ^ three(a3)
		g[3][c] = three(a0) ^ a1 ^ a2 ^ two(a3)
	}
	return g
}

func keyed(b, key [16]byte) [16]byte {
	for i := range b {
		b[i] ^= key[i]
	}
	return b
}

func round(b, key [16]byte) [16]byte {
	return keyed(gridOf(b).boxed().shifted().mixed().block(), key)
}

func last(b, key [16]byte) [16]byte { return keyed(gridOf(b).boxed().shifted().block(), key) }

func TestBoxOfAllBytes(t *testing.T) {
	boxes := gf.Make()
	x := turn.New(boxes)
	for a := range 256 {
		if x.Box(byte(a)) != boxes.To(byte(a)) {
			t.Errorf("P3.1: the box of %x is %x", a, x.Box(byte(a)))
		}
	}
	if x.Box(0) != 99 || x.Box(0x53) != 0xed {
		t.Error("P3.1: the known boxes")
	}
}

func TestExamples(t *testing.T) {
	x := turn.New(gf.Make())
	var none [16]byte
	for i, a := range x.Round(none, none) {
		if a != 99 {
			t.Errorf("P3.1: byte %d of a round of noughts is %d", i, a)
		}
	}
	b := x.Last(rising(), none)
	if [4]byte(b[:4]) != [4]byte{99, 107, 103, 118} {
		t.Errorf("P3.1: the first column of a last round is %v", b[:4])
	}
}

// TestPublishedRound holds a round against the first one of FIPS 197's appendix B.
func TestPublishedRound(t *testing.T) {
	x := turn.New(gf.Make())
	start := [16]byte{0x19, 0x3d, 0xe3, 0xbe, 0xa0, 0xf4, 0xe2, 0x2b, 0x9a, 0xc6, 0x8d, 0x2a, 0xe9, 0xf8, 0x48, 0x08}
	key := [16]byte{0xa0, 0xfa, 0xfe, 0x17, 0x88, 0x54, 0x2c, 0xb1, 0x23, 0xa3, 0x39, 0x39, 0x2a, 0x6c, 0x76, 0x05}
	want := [16]byte{0xa4, 0x9c, 0x7f, 0xf2, 0x68, 0x9f, 0x35, 0x2b, 0x6b, 0x5b, 0xea, 0x43, 0x02, 0x6a, 0x50, 0x49}
	if got := x.Round(start, key); got != want {
		t.Errorf("P3.1: Round: %x", got)
	}
	if got := x.Unround(want, key); got != start {
		t.Errorf("P3.1: Unround: %x", got)
	}
}

func TestRoundsStepByStep(t *testing.T) {
	x := turn.New(gf.Make())
	for n := range uint32(500) {
		b, key := block(n), block(n+1000)
		if got := x.Round(b, key); got != round(b, key) {
			t.Fatalf("P3.1: Round of %x with %x: %x", b, key, got)
		}
		if got := x.Last(b, key); got != last(b, key) {
			t.Fatalf("P3.1: Last of %x with %x: %x", b, key, got)
		}
	}
}

// TestEachByteAtEachPlace reaches every entry that tables can have.
func TestEachByteAtEachPlace(t *testing.T) {
	x := turn.New(gf.Make())
	key := block(7)
	for place := range 16 {
		for a := range 256 {
			b := rising()
			b[place] = byte(a)
			if x.Round(b, key) != round(b, key) || x.Last(b, key) != last(b, key) {
				t.Fatalf("P3.1: a round with %x at %d", a, place)
			}
			if x.Unround(round(b, key), key) != b || x.Unlast(last(b, key), key) != b {
				t.Fatalf("P3.1: back to %x at %d", a, place)
			}
			if round(x.Unround(b, key), key) != b || last(x.Unlast(b, key), key) != b {
				t.Fatalf("P3.1: what comes ahead of %x at %d", a, place)
			}
		}
	}
}

func TestThereAndBack(t *testing.T) {
	x := turn.New(gf.Make())
	for n := range uint32(500) {
		b, key := block(n), block(n+2000)
		if x.Unround(x.Round(b, key), key) != b || x.Round(x.Unround(b, key), key) != b {
			t.Fatalf("P3.2: a round of %x with %x, there and back", b, key)
		}
		if x.Unlast(x.Last(b, key), key) != b || x.Last(x.Unlast(b, key), key) != b {
			t.Fatalf("P3.2: a last round of %x with %x, there and back", b, key)
		}
	}
}

func TestWhatOneByteChanges(t *testing.T) {
	x := turn.New(gf.Make())
	b, key := block(3), block(4)
	for place := range 16 {
		// Row r of column c goes to column c - r.
		column := (place/4 + 4 - place%4) % 4
		for by := 1; by < 256; by++ {
			other := b
			other[place] ^= byte(by)
			p, q := x.Round(b, key), x.Round(other, key)
			v, w := x.Last(b, key), x.Last(other, key)
			for i := range 16 {
				if (p[i] != q[i]) != (i/4 == column) {
					t.Fatalf("P3.2: in a round byte %d, changed by %x, and byte %d", place, by, i)
				}
				if (v[i] != w[i]) != (i == 4*column+place%4) {
					t.Fatalf("P3.2: in a last round byte %d, changed by %x, and byte %d", place, by, i)
				}
			}
		}
	}
}

func TestManyRounds(t *testing.T) {
	x := turn.New(gf.Make())
	b := block(5)
	if x.Rounds(b) != b || x.Rounds(b, [][16]byte{}...) != b || x.Rounds(b, [][16]byte(nil)...) != b {
		t.Error("P3.1, R3: no rounds at all")
	}
	var keys [][16]byte
	want := b
	for n := range uint32(20) {
		key := block(n + 3000)
		keys = append(keys, key)
		want = round(want, key)
		if got := x.Rounds(b, keys...); got != want {
			t.Fatalf("P3.1: %d rounds: %x, not %x", n+1, got, want)
		}
	}
}

func TestOfNil(t *testing.T) {
	no := turn.New(nil)
	if no != nil {
		t.Fatal("P3.1: tables of boxes that are nil")
	}
	var none [16]byte
	for n := range uint32(20) {
		b, key := block(n), block(n+1)
		if no.Round(b, key) != none || no.Last(b, key) != none || no.Unround(b, key) != none || no.Unlast(b, key) != none {
			t.Errorf("P3.1: tables that are nil turn %x", b)
		}
		if no.Rounds(b) != none || no.Rounds(b, key) != none || no.Rounds(b, key, b) != none {
			t.Errorf("P3.1: tables that are nil turn %x by rounds", b)
		}
	}
	for a := range 256 {
		if no.Box(byte(a)) != 0 {
			t.Errorf("P3.1: tables that are nil have a box of %x", a)
		}
	}
}

func TestBoxesAreNeitherChangedNorKept(t *testing.T) {
	boxes := gf.Make()
	x := turn.New(boxes)
	if *boxes != *gf.Make() {
		t.Error("R4: the boxes were changed")
	}
	*boxes = gf.Boxes{}
	b, key := block(8), block(9)
	if x.Box(0) != 99 || x.Round(b, key) != round(b, key) || x.Unlast(last(b, key), key) != b {
		t.Error("R4: the boxes were kept")
	}
}

func TestTablesAreNewEachTime(t *testing.T) {
	boxes := gf.Make()
	one, two := turn.New(boxes), turn.New(boxes)
	if one == two || *one != *two {
		t.Fatal("R4, R5: two tables of the same boxes")
	}
	*one = turn.Tables{}
	if two.Box(0) != 99 || turn.New(boxes).Box(0) != 99 {
		t.Error("R4: tables share what is theirs")
	}
}

func TestTurningChangesNothing(t *testing.T) {
	x := turn.New(gf.Make())
	whole := [][16]byte{block(1), block(2), block(3), block(4)}
	b := block(5)
	first := x.Rounds(b, whole[:2]...)
	x.Round(b, whole[0])
	x.Last(b, whole[0])
	x.Unround(b, whole[0])
	x.Unlast(b, whole[0])
	for i, key := range whole {
		if key != block(uint32(i)+1) {
			t.Errorf("R4: key %d was changed", i)
		}
	}
	if b != block(5) || *x != *turn.New(gf.Make()) {
		t.Error("R4: the block, or the tables, were changed")
	}
	clear(whole)
	if x.Rounds(b, block(1), block(2)) != first {
		t.Error("R4, R5: the keys were kept, or the same rounds tell something else")
	}
}
