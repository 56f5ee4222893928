package tests

import (
	"math"
	"testing"

	"loop.example/donjon/impl"
)

// wordEdges has both sides of each bound, and numbers whose lowest 32 bits alone would be a range.
var wordEdges = []int{
	math.MinInt, math.MinInt + 1, -1 << 32, -1<<32 + 32, math.MinInt32, -4097, -4096, -32, -1,
	0, 1, 2, 3, 4, 5, 8, 31, 32, 33, 2048, 4095, 4096,
	4097, 8191, 8192, 8193, math.MaxInt32, math.MaxUint32, 1 << 32, 1<<32 + 1, 1<<32 + 32, math.MaxInt - 4096, math.MaxInt - 1, math.MaxInt,
}

func isRange(addr int, size int) bool {
	return 0 <= addr && addr <= 4096 && 1 <= size && size <= 4096
}

// wantUp goes up word by word, as the document tells it.
func wantUp(addr int, size int) int {
	if !isRange(addr, size) {
		return 0
	}
	at := addr
	for at%size != 0 {
		at++
	}
	return at
}

// wantInMeet looks at the words of the first range one by one.
func wantInMeet(addr int, size int, outer int, room int) (bool, bool) {
	if !isRange(addr, size) || !isRange(outer, room) {
		return false, false
	}
	in, meet := true, false
	for w := addr; w < addr+size; w++ {
		if outer <= w && w < outer+room {
			meet = true
		} else {
			in = false
		}
	}
	return in, meet
}

func checkOne(t *testing.T, addr int, size int) {
	t.Helper()
	want := isRange(addr, size) && addr%size == 0
	if got := impl.WordAligned(addr, size); got != want {
		t.Errorf("WordAligned(%d, %d) = %v", addr, size, got)
	}
	if got, want := impl.WordUp(addr, size), wantUp(addr, size); got != want {
		t.Errorf("WordUp(%d, %d) = %d, not %d", addr, size, got, want)
	}
}

func checkTwo(t *testing.T, addr int, size int, outer int, room int) {
	t.Helper()
	in, meet := wantInMeet(addr, size, outer, room)
	if got := impl.WordIn(addr, size, outer, room); got != in {
		t.Errorf("WordIn(%d, %d, %d, %d) = %v", addr, size, outer, room, got)
	}
	if got := impl.WordMeet(addr, size, outer, room); got != meet {
		t.Errorf("WordMeet(%d, %d, %d, %d) = %v", addr, size, outer, room, got)
	}
}

func TestWordBounds(t *testing.T) {
	if impl.WordMinBits != 9 || impl.WordMaxBits != 12 || impl.WordBase != 128 {
		t.Error("the table of limits says 9, 12 and 128")
	}
}

func TestWordSize(t *testing.T) {
	want := [13]int{1, 2, 4, 8, 16, 32, 64, 128, 256, 512, 1024, 2048, 4096}
	for bits, size := range want {
		if got := impl.WordSize(bits); got != size {
			t.Errorf("WordSize(%d) = %d, not %d", bits, got, size)
		}
	}
	for _, bits := range []int{math.MinInt, -1 << 32, -64, -1, 13, 31, 32, 63, 64, 256, 1 << 32, math.MaxInt} {
		if got := impl.WordSize(bits); got != 0 {
			t.Errorf("WordSize(%d) = %d, not 0", bits, got)
		}
	}
}

func TestWordAlignedAndUp(t *testing.T) {
	cases := []struct {
		addr, size int
		aligned    bool
		up         int
	}{
		{96, 32, true, 96},
		{97, 32, false, 128},
		{127, 32, false, 128},
		{0, 4096, true, 0},
		{1, 4096, false, 4096},
		{4096, 4096, true, 4096},
		{4096, 4095, false, 8190},
		{4096, 5, false, 4100},
		{12, 6, true, 12},
		{4, 6, false, 6},
		{4097, 1, false, 0},
		{0, 4097, false, 0},
		{64, 0, false, 0},
		{64, -32, false, 0},
		{-64, 32, false, 0},
		{math.MaxInt, math.MaxInt, false, 0},
		{math.MinInt, math.MinInt, false, 0},
	}
	for _, c := range cases {
		if got := impl.WordAligned(c.addr, c.size); got != c.aligned {
			t.Errorf("WordAligned(%d, %d) = %v", c.addr, c.size, got)
		}
		if got := impl.WordUp(c.addr, c.size); got != c.up {
			t.Errorf("WordUp(%d, %d) = %d, not %d", c.addr, c.size, got, c.up)
		}
	}
}

func TestWordInAndMeet(t *testing.T) {
	cases := []struct {
		addr, size, outer, room int
		in, meet                bool
	}{
		{4, 4, 0, 8, true, true},
		{0, 8, 0, 8, true, true},
		{5, 4, 0, 8, false, true},
		{0, 8, 4, 4, false, true},
		{0, 4, 4, 4, false, false},
		{4, 4, 0, 4, false, false},
		{3, 1, 0, 4, true, true},
		{4, 1, 0, 4, false, false},
		{0, 1, 4096, 1, false, false},
		// Ranges may end beyond memory; their words are still counted.
		{4096, 1, 4095, 2, true, true},
		{4096, 4096, 4096, 4096, true, true},
		{4096, 4096, 4095, 4096, false, true},
		{4095, 4096, 4096, 4096, false, true},
		{0, 4096, 4096, 4096, false, false},
		{4, 0, 0, 8, false, false},
		{0, 8, 4, 0, false, false},
		{0, 0, 0, 0, false, false},
		{-1, 4, 0, 8, false, false},
		{0, 8, -1, 4, false, false},
		{0, 4, 0, 4097, false, false},
		{0, 4097, 0, 4097, false, false},
		{4097, 1, 4097, 1, false, false},
		{4, math.MaxInt, 0, 8, false, false},
		{math.MaxInt, 1, 0, 8, false, false},
		{0, 8, math.MaxInt, math.MaxInt, false, false},
		{math.MinInt, math.MinInt, math.MinInt, math.MinInt, false, false},
	}
	for _, c := range cases {
		if got := impl.WordIn(c.addr, c.size, c.outer, c.room); got != c.in {
			t.Errorf("WordIn(%d, %d, %d, %d) = %v", c.addr, c.size, c.outer, c.room, got)
		}
		if got := impl.WordMeet(c.addr, c.size, c.outer, c.room); got != c.meet {
			t.Errorf("WordMeet(%d, %d, %d, %d) = %v", c.addr, c.size, c.outer, c.room, got)
		}
	}
}

func TestWordAlignedAndUpEverywhere(t *testing.T) {
	for _, addr := range wordEdges {
		for _, size := range wordEdges {
			checkOne(t, addr, size)
		}
	}
	for addr := -2; addr <= 70; addr++ {
		for size := -2; size <= 70; size++ {
			checkOne(t, addr, size)
		}
	}
	for size := 0; size <= 4097; size++ {
		for _, addr := range []int{1, size - 1, size, size + 1, 4095, 4096, 4097} {
			checkOne(t, addr, size)
		}
	}
}

func TestWordInAndMeetSmall(t *testing.T) {
	for addr := -1; addr <= 9; addr++ {
		for size := -1; size <= 9; size++ {
			for outer := -1; outer <= 9; outer++ {
				for room := -1; room <= 9; room++ {
					checkTwo(t, addr, size, outer, room)
				}
			}
		}
	}
}

func TestWordInAndMeetEdges(t *testing.T) {
	for _, addr := range wordEdges {
		for _, size := range wordEdges {
			for _, outer := range wordEdges {
				for _, room := range wordEdges {
					checkTwo(t, addr, size, outer, room)
				}
			}
		}
	}
}

// alignedRanges is each range that is aligned to its own size, a power of two of at least so many bits.
func alignedRanges(least int) [][2]int {
	var list [][2]int
	for bits := least; bits <= impl.WordMaxBits; bits++ {
		size := impl.WordSize(bits)
		for addr := 0; addr <= 4096; addr++ {
			if impl.WordAligned(addr, size) {
				list = append(list, [2]int{addr, size})
			}
		}
	}
	return list
}

// TestWordPromise1 asks for just one of: within, around, apart; two alike are both within and around.
func TestWordPromise1(t *testing.T) {
	list := alignedRanges(3)
	if len(list) != 1033 {
		t.Fatalf("%d aligned ranges, not 1033", len(list))
	}
	for _, a := range list {
		for _, b := range list {
			within := impl.WordIn(a[0], a[1], b[0], b[1])
			around := impl.WordIn(b[0], b[1], a[0], a[1])
			meet := impl.WordMeet(a[0], a[1], b[0], b[1])
			if meet != (within || around) || (within && around) != (a == b) {
				t.Fatalf("%v and %v: within %v, around %v, meet %v", a, b, within, around, meet)
			}
		}
	}
}

// TestWordPromise1Small has the ranges of fewer bits against those around a word.
func TestWordPromise1Small(t *testing.T) {
	small := alignedRanges(0)
	for _, a := range small {
		for bits := 0; bits <= impl.WordMaxBits; bits++ {
			size := impl.WordSize(bits)
			for _, word := range []int{0, a[0], a[0] + a[1] - 1, a[0] + a[1], a[0] + size} {
				addr := word &^ (size - 1)
				if addr > 4096 {
					continue
				}
				in, meet := wantAligned(a[0], a[1], addr, size)
				if impl.WordIn(a[0], a[1], addr, size) != in || impl.WordMeet(addr, size, a[0], a[1]) != meet {
					t.Fatalf("%v and %d, %d: not within %v, meet %v", a, addr, size, in, meet)
				}
			}
		}
	}
}

// wantAligned tells it by the bits of the addresses: two such ranges meet just if the address of the smaller one, cut to the size of the greater one, is that of the greater one.
func wantAligned(addr int, size int, outer int, room int) (bool, bool) {
	meet := addr&^(room-1) == outer
	if size > room {
		meet = outer&^(size-1) == addr
	}
	return meet && size <= room, meet
}

func TestWordMeetBothWays(t *testing.T) {
	for _, addr := range wordEdges {
		for _, size := range wordEdges {
			for _, other := range wordEdges {
				if impl.WordMeet(addr, size, other, 4) != impl.WordMeet(other, 4, addr, size) {
					t.Errorf("WordMeet(%d, %d, %d, 4) does not go both ways", addr, size, other)
				}
			}
		}
	}
}
