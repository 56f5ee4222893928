package tests

import (
	"fmt"
	"math"
	"math/rand"
	"reflect"
	"slices"
	"testing"

	"loop.example/donjon/impl"
)

// firstOther is the first place at which two lists of words differ.
func firstOther(a []uint32, b []uint32) string {
	if len(a) != len(b) {
		return fmt.Sprintf("%d words, want %d", len(a), len(b))
	}
	for i := range a {
		if a[i] != b[i] {
			return fmt.Sprintf("word %d: %d, want %d", i, a[i], b[i])
		}
	}
	return ""
}

// checkLay holds LayMake against the document's words, and asks promise 8 of the state; it answers whether the state is ok.
func checkLay(t *testing.T, k impl.Kern) bool {
	t.Helper()
	want := wantLayMake(k)
	words := impl.LayMake(k)
	if other := firstOther(words, want); other != "" {
		t.Fatalf("LayMake: %s\n%+v", other, k)
	}
	if want == nil {
		return false
	}
	if back, ok := impl.LayRead(words); !ok || !wantKernSame(back, k) {
		t.Fatalf("LayRead of LayMake: %v\n%+v\nwant\n%+v", ok, back, k)
	}
	return true
}

// checkWords holds LayRead against the document's words, and asks promise 8 of the words; it answers whether they are those of a state.
func checkWords(t *testing.T, words []uint32) bool {
	t.Helper()
	want, wantOk := wantLayRead(words)
	k, ok := impl.LayRead(words)
	if ok != wantOk || !wantKernSame(k, want) {
		t.Fatalf("LayRead: %v, want %v\n%+v\nwant\n%+v\n%v", ok, wantOk, k, want, words)
	}
	if ok && (!impl.KernOk(k) || !slices.Equal(impl.LayMake(k), words)) {
		t.Fatalf("LayRead: the state has not these words\n%+v\n%v", k, words)
	}
	return ok
}

// refused asks for nothing and false.
func refused(t *testing.T, name string, words []uint32) {
	t.Helper()
	if k, ok := impl.LayRead(words); ok || !reflect.DeepEqual(withNil(k), impl.Kern{}) {
		t.Errorf("%s: %v %+v", name, ok, k)
	}
	if _, ok := wantLayRead(words); ok {
		t.Errorf("%s: the test's own answer is true", name)
	}
}

// layStates is states that have something of everything.
func layStates() []impl.Kern {
	return []impl.Kern{kernFull(), kernSmall(), kernNested(4), kernRegions(), kernReplyIn(72), {Bits: 9}}
}

func TestLayEmpty(t *testing.T) {
	for bits := 9; bits <= 12; bits++ {
		for _, ticks := range []int{0, 1, 77, 1000000} {
			k := impl.Kern{Bits: bits, Ticks: ticks}
			want := make([]uint32, 1<<bits)
			want[0], want[1] = uint32(bits), uint32(ticks)
			if other := firstOther(impl.LayMake(k), want); other != "" {
				t.Error(bits, ticks, other)
			}
			checkLay(t, k)
		}
	}
	for _, k := range []impl.Kern{{}, {Bits: 8}, {Bits: 13}, {Bits: -1}, {Bits: math.MaxInt}, {Bits: 9, Ticks: -1}, {Bits: 9, Ticks: 1000001}} {
		if words := impl.LayMake(k); len(words) != 0 || checkLay(t, k) {
			t.Error("words of what is no state", len(words), k)
		}
	}
}

// checkWrittenOut holds LayMake against words that are written out; all others must be 0.
func checkWrittenOut(t *testing.T, k impl.Kern, words map[int]uint32) {
	t.Helper()
	want := make([]uint32, 1<<k.Bits)
	for at, word := range words {
		want[at] = word
	}
	if other := firstOther(impl.LayMake(k), want); other != "" {
		t.Error(other)
	}
	if back, ok := impl.LayRead(want); !ok || !wantKernSame(back, k) {
		t.Errorf("read %v\n%+v\nwant\n%+v", ok, back, k)
	}
	checkLay(t, k)
}

// Each kind of capability, some of them derived, with all that a slot can have.
func TestLayWrittenOutSlots(t *testing.T) {
	guarded := copyOf(impl.CapNode, 128, 1)
	guarded.Guard, guarded.GuardBits = 5, 3
	told := impl.Cap{Kind: impl.CapNote, Addr: 144, Rights: 2, Badge: 65535}
	k := impl.Kern{
		Bits:  9,
		Ticks: 1000000,
		Slots: []impl.TreeSlot{
			{At: 96, Cap: regionOf(128, 7, 37)},
			{At: 68, Cap: origOf(impl.CapNode, 128, 1), Depth: 1},
			{At: 132, Cap: guarded, Depth: 2},
			{At: 124, Cap: origOf(impl.CapEnd, 140, 0), Depth: 1},
			{At: 64, Cap: endOf(140, 6, 258), Depth: 2},
			{At: 128, Cap: endOf(140, 4, 258), Depth: 3},
			{At: 72, Cap: origOf(impl.CapNote, 144, 0), Depth: 1},
			{At: 76, Cap: told, Depth: 2},
			{At: 80, Cap: origOf(impl.CapFrame, 148, 1), Depth: 1},
			{At: 84, Cap: origOf(impl.CapThread, 256, 0)},
			{At: 260, Cap: copyOf(impl.CapReply, 256, 0), Depth: 1},
		},
		Threads: []impl.KernThread{{At: 256, State: impl.KernCalls, Slice: 3}},
		Ends:    []impl.KernEnd{{At: 140}},
		Notes:   []impl.KernNote{{At: 144}},
		Frames:  []impl.KernFrame{{At: 148, Data: []uint32{0, 1 << 31}}},
	}
	checkWrittenOut(t, k, map[int]uint32{
		0: 9, 1: 1000000, 2: 96,
		96: 1 + 16 + 256*7 + 65536*37, 97: 128, 98: 0, 99: 68,
		68: 2 + 16 + 256*1, 69: 128, 70: 96 + 65536, 71: 132,
		132: 2 + 256*1 + 4096*3, 133: 128 + 65536*5, 134: 68 + 65536*2, 135: 124,
		124: 4 + 16 + 32*7, 125: 140, 126: 132 + 65536, 127: 64,
		64: 4 + 32*6, 65: 140 + 65536*258, 66: 124 + 65536*2, 67: 128,
		128: 4 + 32*4, 129: 140 + 65536*258, 130: 64 + 65536*3, 131: 72,
		72: 5 + 16 + 32*3, 73: 144, 74: 128 + 65536, 75: 76,
		76: 5 + 32*2, 77: 144 + 65536*65535, 78: 72 + 65536*2, 79: 80,
		80: 6 + 16 + 32*3 + 256, 81: 148, 82: 76 + 65536, 83: 84,
		84: 3 + 16, 85: 256, 86: 80, 87: 260,
		260: 7, 261: 256, 262: 84 + 65536, 263: 0,
		268: 4, 271: 3,
		149: 1 << 31,
	})
}

// Threads in each state, with all that a thread can have.
func TestLayWrittenOutThreads(t *testing.T) {
	k := impl.Kern{Bits: 10, Ends: []impl.KernEnd{{At: 128, Kind: 1, List: []int{288, 160}}, {At: 132, Kind: 2, List: []int{192}}}}
	for i, at := range []int{160, 192, 224, 256, 288, 320, 352} {
		k.Slots = append(k.Slots, impl.TreeSlot{At: 64 + 4*i, Cap: origOf(impl.CapThread, at, 0)})
	}
	k.Slots = append(k.Slots,
		impl.TreeSlot{At: 92, Cap: origOf(impl.CapEnd, 128, 0)},
		impl.TreeSlot{At: 96, Cap: origOf(impl.CapEnd, 132, 0)},
		impl.TreeSlot{At: 100, Cap: origOf(impl.CapNote, 136, 0)},
		impl.TreeSlot{At: 104, Cap: origOf(impl.CapNote, 140, 0)})
	k.Threads = []impl.KernThread{
		{At: 160, State: impl.KernSends, Prio: 1, Max: 2, Slice: 3, On: 128, Badge: 65535, Msg: math.MaxUint32, Flags: 3, Xfer: 0x10002, Out: [3]uint32{4, 5, 6}},
		{At: 192, State: impl.KernWaits, Prio: 7, Max: 7, Slice: 4, On: 132, Xfer: math.MaxUint32, Out: [3]uint32{0, math.MaxUint32, 0}},
		{At: 224, State: impl.KernRuns, Prio: 7, Slice: 1, Pend: impl.KernDeletes, PendRef: math.MaxUint32},
		{At: 256, State: impl.KernIdle, Slice: 4, Out: [3]uint32{0, 0, 9}},
		{At: 288, State: impl.KernSends, Slice: 1, On: 128},
		{At: 320, State: impl.KernListens, Prio: 4, Slice: 2, On: 136},
		{At: 352, State: impl.KernRuns, Prio: 0, Max: 1, Slice: 2, Pend: impl.KernRevokes},
	}
	k.Notes = []impl.KernNote{{At: 136, List: []int{320}}, {At: 140, Active: true, Word: 513}}
	k.Ready[7], k.Ready[0] = []int{224}, []int{352}
	want := map[int]uint32{
		0: 10, 2: 64, 8: 352, 9: 352, 22: 224, 23: 224,
		128: 1, 129: 288, 130: 160,
		132: 2, 133: 192, 134: 192,
		136: 1, 138: 320, 139: 320,
		140: 2, 141: 513,
		172: 2, 173: 1, 174: 2, 175: 3, 177: 288, 178: 128, 179: 65535, 180: math.MaxUint32, 181: 3, 182: 0x10002, 183: 4, 184: 5, 185: 6,
		204: 3, 205: 7, 206: 7, 207: 4, 210: 132, 214: math.MaxUint32, 216: math.MaxUint32,
		236: 1, 237: 7, 239: 1, 250: 2, 251: math.MaxUint32,
		271: 4, 281: 9,
		300: 2, 303: 1, 304: 160, 306: 128,
		332: 5, 333: 4, 335: 2, 338: 136,
		364: 1, 366: 1, 367: 2, 378: 1,
	}
	caps := []uint32{19, 160, 19, 192, 19, 224, 19, 256, 19, 288, 19, 320, 19, 352, 4 + 16 + 224, 128, 4 + 16 + 224, 132, 5 + 16 + 96, 136, 5 + 16 + 96, 140}
	for i := range 11 {
		at := 64 + 4*i
		want[at], want[at+1] = caps[2*i], caps[2*i+1]
		if i > 0 {
			want[at+2] = uint32(at - 4)
		}
		if i < 10 {
			want[at+3] = uint32(at + 4)
		}
	}
	checkWrittenOut(t, k, want)
}

func TestLayWrittenOutFull(t *testing.T) {
	words := impl.LayMake(kernFull())
	if len(words) != 1024 {
		t.Fatal(len(words))
	}
	for _, c := range [][2]uint32{
		{0, 10}, {1, 77}, {2, 64}, {3, 0}, {7, 0}, {8, 0}, {9, 0}, {14, 384}, {15, 160}, {22, 0}, {23, 0}, {24, 0}, {63, 0},
		{128, 2 + 768 + 8192}, {129, 128 + 65536}, {130, 160 + 65536}, {131, 68},
		{124, 19}, {125, 384}, {126, 156}, {127, 0},
		{172, 1}, {173, 3}, {174, 7}, {175, 4}, {176, 0}, {177, 384}, {183, 1}, {184, 2}, {185, 3}, {186, 1}, {187, 0x30002}, {188, 0}, {191, 0},
		{352, 1}, {353, 192}, {354, 192}, {355, 0}, {356, 2}, {357, 224}, {358, 224}, {520, 0}, {521, 0}, {522, 0},
		{360, 1}, {361, 0}, {362, 288}, {363, 288}, {364, 2}, {365, 9}, {366, 0}, {367, 0}, {528, 0},
		{368, 7}, {369, 0}, {370, 1 << 31}, {371, 9}, {535, 4},
		{400, 160}, {401, 0}, {1023, 0},
	} {
		if words[c[0]] != c[1] {
			t.Errorf("word %d: %d, want %d", c[0], words[c[0]], c[1])
		}
	}
	checkLay(t, kernFull())
}

// kernThree is three objects of three kinds that came of nothing, with a copy of each that may be copied.
func kernThree(kinds [3]int, copies bool) impl.Kern {
	m := &kernMaker{r: rand.New(rand.NewSource(5))}
	m.k.Bits = 10
	for i, kind := range kinds {
		c := origOf(kind, 256+128*i, fewBits(kind))
		m.k.Slots = append(m.k.Slots, impl.TreeSlot{At: 64 + 4*i, Cap: c})
		m.object(kind, c.Addr, c.Bits)
		if copies && kind != impl.CapUntyped {
			m.k.Slots = append(m.k.Slots, impl.TreeSlot{At: 96 + 4*i, Cap: copyOf(kind, c.Addr, c.Bits), Depth: 1})
		}
	}
	return m.k
}

// Slots of each kind at the first place of the tree, in the middle and at the last.
func TestLayPlaces(t *testing.T) {
	for a := impl.CapUntyped; a <= impl.CapFrame; a++ {
		for b := impl.CapUntyped; b <= impl.CapFrame; b++ {
			for c := impl.CapUntyped; c <= impl.CapFrame; c++ {
				for _, copies := range []bool{false, true} {
					if !checkLay(t, kernThree([3]int{a, b, c}, copies)) {
						t.Fatal("three objects", a, b, c, copies)
					}
				}
			}
		}
	}
	// A reply is never the first, as it came of its thread.
	for _, k := range []impl.Kern{kernReplyIn(72), kernFull()} {
		if !checkLay(t, k) {
			t.Fatal("a reply")
		}
	}
}

// A chain of slots, each of which came of the one ahead of it, down to the greatest depth.
func TestLayDepths(t *testing.T) {
	k := impl.Kern{Bits: 9, Ends: []impl.KernEnd{{At: 128}}, Slots: []impl.TreeSlot{{At: 64, Cap: origOf(impl.CapEnd, 128, 0)}}}
	for depth := 1; depth <= 12; depth++ {
		k.Slots = append(k.Slots, impl.TreeSlot{At: 64 + 4*depth, Cap: endOf(128, 7, 0), Depth: depth})
		if !checkLay(t, k) {
			t.Fatal("depth", depth)
		}
		words := impl.LayMake(k)
		if got := words[64+4*depth+2]; got != uint32(64+4*(depth-1)+65536*depth) {
			t.Error(depth, got)
		}
		// Any depth from 1 to one more than that of the slot ahead is a tree too; others are none.
		for other := range 70 {
			words[64+4*depth+2] = uint32(64+4*(depth-1)) + uint32(other)<<16
			if got := checkWords(t, words); got != (other >= 1 && other <= depth) {
				t.Error("depth", depth, "as", other, got)
			}
		}
	}
	k.Slots = append(k.Slots, impl.TreeSlot{At: 120, Cap: endOf(128, 7, 0), Depth: 13})
	if checkLay(t, k) {
		t.Error("too deep")
	}
	refused(t, "too deep", wordsOfKern(k))
}

// Lists of up to four threads, in Ready, of endpoints and of notifications.
func TestLayQueues(t *testing.T) {
	for size := range 5 {
		for place := range 7 {
			for _, turn := range []bool{false, true} {
				sizes := [7]int{1, 0, 1, 1, 1, 0, 1}
				sizes[place] = size
				if !checkLay(t, kernQueues(sizes, turn)) {
					t.Fatal("a list", sizes, turn)
				}
			}
		}
	}
	all := kernQueues([7]int{3, 3, 3, 3, 3, 3, 3}, true)
	if !checkLay(t, all) {
		t.Fatal("all lists")
	}
	words := impl.LayMake(all)
	// The first list is 1120, 1088, 1056; the others go on likewise.
	heads := []int{8, 14, 22, 129, 133, 142, 146}
	for i, head := range heads {
		last := uint32(1056 + 96*i)
		middle, first := last+32, last+64
		got := []uint32{words[head], words[head+1], words[first+16], words[first+17], words[middle+16], words[middle+17], words[last+16], words[last+17]}
		want := []uint32{first, last, middle, 0, last, first, 0, middle}
		if !slices.Equal(got, want) {
			t.Error("list", i, got, want)
		}
	}
	if words[1024+16] != 0 || words[1024+17] != 0 {
		t.Error("a thread that stands in no list")
	}
}

// Each order of four threads that are ready.
func TestLayOrders(t *testing.T) {
	k := kernQueues([7]int{0, 4, 0, 2, 0, 0, 0}, false)
	var orders func(list []int, n int)
	seen := 0
	orders = func(list []int, n int) {
		if n == len(list) {
			k.Ready[3] = slices.Clone(list)
			if !checkLay(t, k) {
				t.Fatal("an order", list)
			}
			seen++
			return
		}
		for i := n; i < len(list); i++ {
			list[n], list[i] = list[i], list[n]
			orders(list, n+1)
			list[n], list[i] = list[i], list[n]
		}
	}
	orders(slices.Clone(k.Ready[3]), 0)
	if seen != 24 {
		t.Error(seen)
	}
}

func TestLayEnds(t *testing.T) {
	for kind := range 3 {
		k := impl.Kern{Bits: 9, Ends: []impl.KernEnd{{At: 508, Kind: kind}}, Slots: []impl.TreeSlot{{At: 64, Cap: origOf(impl.CapEnd, 508, 0)}}}
		if kind > 0 {
			k.Ends[0].List = []int{128}
			k.Threads = []impl.KernThread{{At: 128, State: kind + 1, Slice: 4, On: 508}}
			k.Slots = append(k.Slots, impl.TreeSlot{At: 68, Cap: origOf(impl.CapThread, 128, 0)})
		}
		if !checkLay(t, k) {
			t.Fatal("kind", kind)
		}
		words := impl.LayMake(k)
		thread := uint32(128 * min(kind, 1))
		if !slices.Equal(words[508:], []uint32{uint32(kind), thread, thread, 0}) {
			t.Error(kind, words[508:])
		}
	}
}

func TestLayNotes(t *testing.T) {
	note := func(n impl.KernNote) impl.Kern {
		k := impl.Kern{Bits: 9, Notes: []impl.KernNote{n}, Slots: []impl.TreeSlot{{At: 64, Cap: origOf(impl.CapNote, 508, 0)}}}
		for _, at := range n.List {
			k.Threads = append(k.Threads, impl.KernThread{At: at, State: impl.KernListens, Slice: 4, On: 508})
			k.Slots = append(k.Slots, impl.TreeSlot{At: 64 + at/32, Cap: origOf(impl.CapThread, at, 0)})
		}
		return k
	}
	cases := []struct {
		note impl.KernNote
		want []uint32
	}{
		{impl.KernNote{At: 508}, []uint32{0, 0, 0, 0}},
		{impl.KernNote{At: 508, Active: true}, []uint32{2, 0, 0, 0}},
		{impl.KernNote{At: 508, Active: true, Word: 1}, []uint32{2, 1, 0, 0}},
		{impl.KernNote{At: 508, Active: true, Word: 65535}, []uint32{2, 65535, 0, 0}},
		{impl.KernNote{At: 508, List: []int{128}}, []uint32{1, 0, 128, 128}},
		{impl.KernNote{At: 508, List: []int{128, 256, 384}}, []uint32{1, 0, 128, 384}},
	}
	for _, c := range cases {
		k := note(c.note)
		if !checkLay(t, k) {
			t.Fatalf("%+v", c.note)
		}
		words := impl.LayMake(k)
		if !slices.Equal(words[508:], c.want) {
			t.Errorf("%+v: %v", c.note, words[508:])
		}
		for state := range uint32(5) {
			for _, word := range []uint32{0, 1, 65535, 65536, math.MaxUint32} {
				other := slices.Clone(words)
				other[508], other[509] = state, word
				listed := len(c.note.List) > 0
				want := listed && state == 1 && word == 0 || !listed && (state == 0 && word == 0 || state == 2 && word <= 65535)
				if got := checkWords(t, other); got != want {
					t.Errorf("%+v with %d %d: %v", c.note, state, word, got)
				}
			}
		}
	}
}

// Frames of each size, at the end of each memory.
func TestLayFrames(t *testing.T) {
	for bits := 9; bits <= 12; bits++ {
		for size := range 7 {
			for _, word := range []uint32{0, 1, 1 << 31, math.MaxUint32} {
				at := 1<<bits - 1<<size
				data := make([]uint32, 1<<size)
				for i := range data {
					data[i] = word - uint32(i)
				}
				k := impl.Kern{Bits: bits, Slots: []impl.TreeSlot{{At: 64, Cap: origOf(impl.CapFrame, at, size)}}, Frames: []impl.KernFrame{{At: at, Data: data}}}
				if !checkLay(t, k) {
					t.Fatal(bits, size)
				}
				words := impl.LayMake(k)
				if !slices.Equal(words[at:], data) || words[at-1] != 0 {
					t.Error(bits, size, words[at-1:])
				}
			}
		}
	}
}

// Each object at the end of each memory, and one object beyond it.
func TestLayMemory(t *testing.T) {
	for bits := 9; bits <= 12; bits++ {
		for kind := impl.CapUntyped; kind <= impl.CapFrame; kind++ {
			if !checkLay(t, kernAtEnd(bits, kind, 0)) {
				t.Fatal("at the end", bits, kind)
			}
			if checkLay(t, kernAtEnd(bits, kind, 1)) {
				t.Fatal("beyond the end", bits, kind)
			}
			// The words of the slot alone, as the object has no place.
			k := kernAtEnd(bits, kind, 1)
			words := make(layWords, 1<<bits)
			words.put(0, bits)
			words.putSlots(k.Slots)
			refused(t, fmt.Sprint("beyond the end ", bits, " ", kind), words)
		}
	}
}

func TestLayNotOk(t *testing.T) {
	oks, others := 0, 0
	for _, k := range layStates() {
		eachChange(k, kernNumbers, func(path string, c impl.Kern) {
			if impl.KernOk(c) {
				oks++
				checkLay(t, c)
				return
			}
			others++
			if words := impl.LayMake(c); len(words) != 0 {
				t.Fatalf("words of what is no state, %s\n%+v", path, c)
			}
		})
	}
	if oks < 1000 || others < 10000 {
		t.Error("the changes are not as they were meant", oks, others)
	}
	r := rand.New(rand.NewSource(5))
	for range 2000 {
		checkLay(t, wildKern(r))
	}
}

// What would be the words of a state that is not ok is not read.
func TestLayWordsOfNotOk(t *testing.T) {
	others := 0
	for _, k := range layStates() {
		eachChange(k, []int{0, 1, 3, 64, 128, 132, 160, 192, 352, 360, 384, 512, 65536}, func(path string, c impl.Kern) {
			if c.Bits < 9 || c.Bits > 12 || impl.KernOk(c) {
				return
			}
			others++
			// It may be that another state has these words.
			if back, ok := impl.LayRead(wordsOfKern(c)); ok && wantKernSame(back, c) {
				t.Fatalf("read what is no state, %s\n%+v", path, c)
			}
			if others%3 == 0 {
				checkWords(t, wordsOfKern(c))
			}
		})
	}
	if others < 5000 {
		t.Error("the changes are not as they were meant", others)
	}
}

func TestLayAny(t *testing.T) {
	r := rand.New(rand.NewSource(15))
	for range 800 {
		if k := anyKern(r, r.Intn(60)); !checkLay(t, k) || !checkWords(t, impl.LayMake(k)) {
			t.Fatalf("not laid\n%+v", k)
		}
	}
	most := 0
	for range 20 {
		k := anyKern(r, 1500)
		if !checkLay(t, k) {
			t.Fatalf("not laid\n%+v", k)
		}
		most = max(most, len(k.Slots))
	}
	if most != 300 {
		t.Error("no state has all slots that there may be, but", most)
	}
}

// A chain of 300 slots, and one more.
func TestLayManySlots(t *testing.T) {
	if k := kernNested(299); !checkLay(t, k) {
		t.Error("300 slots")
	}
	k := kernNested(300)
	if len(impl.LayMake(k)) != 0 {
		t.Error("301 slots")
	}
	refused(t, "301 slots", wordsOfKern(k))
}

// layValues is what a word is changed to: one more and less, each bit turned, addresses and numbers that mean something, and the ends; a few of these for a word that nobody uses.
func layValues(words []uint32, at int, used bool) []uint32 {
	old := words[at]
	if !used {
		return []uint32{1, 1 << (at % 32), uint32(at), 64, math.MaxUint32}
	}
	values := []uint32{old + 1, old - 1, old + 4, old - 4, old + 32, old - 32, old + 65536, old - 65536, 0, 1, 2, 3, 4, 5, 6, 7, 8, 9, 10, math.MaxUint32, uint32(at), uint32(len(words)), uint32(len(words) - 1), uint32(len(words) - 4), uint32(len(words) - 32)}
	for bit := range 32 {
		values = append(values, old^1<<bit)
	}
	for _, n := range kernNumbers {
		if n > 9 && n < 1<<20 {
			values = append(values, uint32(n))
		}
	}
	return values
}

// Each word of some states changed by itself, be it one that is named or one that nobody uses.
func TestLayEachWord(t *testing.T) {
	oks, others := 0, 0
	for _, k := range layStates() {
		words := impl.LayMake(k)
		used := usedWords(k)
		for at, old := range words {
			for _, value := range layValues(words, at, used[at] > 0) {
				if value == old {
					continue
				}
				words[at] = value
				if checkWords(t, words) {
					oks++
				} else {
					others++
				}
			}
			words[at] = old
		}
		if !checkWords(t, words) {
			t.Fatal("put back")
		}
	}
	if oks < 1000 || others < 50000 {
		t.Error("the changes are not as they were meant", oks, others)
	}
}

// usedWords is the places of words that a state names.
func usedWords(k impl.Kern) map[int]int {
	used := map[int]int{0: 1, 1: 1, 2: 1}
	take := func(at int, n int) {
		for i := at; i < at+n; i++ {
			used[i]++
		}
	}
	take(8, 16)
	for _, s := range k.Slots {
		take(s.At, 4)
	}
	for _, th := range k.Threads {
		take(th.At+12, 16)
	}
	for _, e := range k.Ends {
		take(e.At, 3)
	}
	for _, n := range k.Notes {
		take(n.At, 4)
	}
	for _, f := range k.Frames {
		take(f.At, len(f.Data))
	}
	return used
}

// Words that nobody uses must be 0.
func TestLayUnusedWords(t *testing.T) {
	r := rand.New(rand.NewSource(25))
	states := append(layStates(), impl.Kern{Bits: 12}, kernNested(299))
	for range 20 {
		states = append(states, anyKern(r, r.Intn(50)))
	}
	for _, k := range states {
		words := impl.LayMake(k)
		used := usedWords(k)
		var free []int
		for at := range words {
			switch used[at] {
			case 0:
				free = append(free, at)
			case 1:
			default:
				t.Fatalf("word %d is named twice\n%+v", at, k)
			}
		}
		for _, at := range free {
			for _, value := range []uint32{1 << r.Intn(32), math.MaxUint32} {
				words[at] = value
				if _, ok := impl.LayRead(words); ok {
					t.Fatalf("word %d, which nobody uses, is %d\n%+v", at, value, k)
				}
			}
			words[at] = 0
		}
		// Two that add up to nothing, in words of 32 bits.
		for range 50 {
			a, b := free[r.Intn(len(free))], free[r.Intn(len(free))]
			if a == b {
				continue
			}
			words[a] = r.Uint32() | 1
			words[b] = -words[a]
			if _, ok := impl.LayRead(words); ok {
				t.Fatalf("words %d and %d, which nobody uses\n%+v", a, b, k)
			}
			words[a], words[b] = 0, 0
		}
		if back, ok := impl.LayRead(words); !ok || !wantKernSame(back, k) {
			t.Fatalf("put back\n%+v", k)
		}
	}
}

// A word that is moved to where nobody uses it leaves the sum of all words as it was.
func TestLayMovedWords(t *testing.T) {
	r := rand.New(rand.NewSource(35))
	for _, k := range append(layStates(), anyKern(r, 40), anyKern(r, 40)) {
		words := impl.LayMake(k)
		used := usedWords(k)
		for at := range words {
			if words[at] == 0 {
				continue
			}
			for range 20 {
				to := r.Intn(len(words))
				if used[to] == 0 {
					words[at], words[to] = words[to], words[at]
					if checkWords(t, words) {
						t.Fatalf("word %d at %d\n%+v", at, to, k)
					}
					words[at], words[to] = words[to], words[at]
				}
			}
		}
	}
}

// linkPlaces is the places of all words that name a slot or a thread as a link: of slots, of threads, and the first and the last of lists.
func linkPlaces(k impl.Kern) []int {
	places := []int{2}
	for at := 8; at < 24; at++ {
		places = append(places, at)
	}
	for _, s := range k.Slots {
		places = append(places, s.At+2, s.At+3)
	}
	for _, th := range k.Threads {
		places = append(places, th.At+16, th.At+17)
	}
	for _, e := range k.Ends {
		places = append(places, e.At+1, e.At+2)
	}
	for _, n := range k.Notes {
		places = append(places, n.At+2, n.At+3)
	}
	return places
}

// linkTargets is what a link may be made to name: each slot and each thread, each object, places that are none of these, and such beyond memory.
func linkTargets(k impl.Kern) []uint32 {
	end := uint32(1) << k.Bits
	targets := []uint32{0, 1, 2, 4, 60, 64, 65, 128, end - 32, end - 31, end - 4, end - 3, end - 1, end, end + 4, 4096, 65536, 65536 + 64, 1 << 31, math.MaxUint32, math.MaxUint32 - 31, math.MaxUint32 - 3, math.MaxUint32 - 16}
	for _, s := range k.Slots {
		targets = append(targets, uint32(s.At), uint32(s.Cap.Addr))
	}
	return targets
}

// One link by itself never leaves a state, as it is told from both sides: each such change is refused.
func TestLayOneLink(t *testing.T) {
	r := rand.New(rand.NewSource(45))
	states := append(layStates(), kernQueues([7]int{3, 2, 1, 3, 2, 3, 2}, false), kernQueues([7]int{1, 3, 2, 2, 3, 1, 3}, true))
	for range 10 {
		states = append(states, anyKern(r, 40))
	}
	for _, k := range states {
		words := impl.LayMake(k)
		for _, at := range linkPlaces(k) {
			old := words[at]
			for _, target := range linkTargets(k) {
				// The depth of a slot stands beside its link, and is asked by itself.
				value := target
				if slices.ContainsFunc(k.Slots, func(s impl.TreeSlot) bool { return s.At+2 == at }) {
					value = target&65535 | old&^65535
				}
				if value == old {
					continue
				}
				words[at] = value
				if back, ok := impl.LayRead(words); ok || !reflect.DeepEqual(withNil(back), impl.Kern{}) {
					t.Fatalf("word %d is %d, was %d\n%+v", at, value, old, k)
				}
			}
			words[at] = old
		}
	}
}

// Two links, so that those which are told from both sides go together.
func TestLayTwoLinks(t *testing.T) {
	r := rand.New(rand.NewSource(55))
	states := append(layStates(), kernQueues([7]int{3, 2, 0, 2, 0, 2, 0}, false))
	oks := 0
	for i, k := range states {
		words := impl.LayMake(k)
		places, targets := linkPlaces(k), linkTargets(k)
		for range 20000 {
			a, b := places[r.Intn(len(places))], places[r.Intn(len(places))]
			oldA, oldB := words[a], words[b]
			switch r.Intn(3) {
			case 0:
				words[a], words[b] = words[b], words[a]
			case 1:
				words[a], words[b] = targets[r.Intn(len(targets))], targets[r.Intn(len(targets))]
			default:
				words[a], words[b] = words[places[r.Intn(len(places))]], words[places[r.Intn(len(places))]]
			}
			if _, ok := impl.LayRead(words); ok {
				oks++
				checkWords(t, words)
			} else if r.Intn(10) == 0 {
				checkWords(t, words)
			}
			words[b] = oldB
			words[a] = oldA
		}
		if !checkWords(t, words) {
			t.Fatal("put back", i)
		}
	}
	if oks < 100 {
		t.Error("the changes are not as they were meant", oks)
	}
}

// layCase is a change of the words of kernSmall, whose Ready of 5 is 224, 320, 128, whose endpoint at 480 has 352, 160, 256, and whose notification at 484 has 192, 384, 288.
type layCase struct {
	name   string
	change map[int]uint32
}

func TestLayWrongLinks(t *testing.T) {
	cases := []layCase{
		{"the first slot is none", map[int]uint32{2: 0}},
		{"the first slot is the second", map[int]uint32{2: 68}},
		{"the first slot is left out", map[int]uint32{2: 68, 70: 0}},
		{"the first slot holds nothing", map[int]uint32{2: 108}},
		{"the first slot is no slot", map[int]uint32{2: 66}},
		{"the first slot lies beyond memory", map[int]uint32{2: 512}},
		{"the first slot lies just half in memory", map[int]uint32{2: 510}},
		{"the first slot lies far beyond memory", map[int]uint32{2: math.MaxUint32}},
		{"a slot names itself as the next", map[int]uint32{71: 68}},
		{"a slot names itself both ways", map[int]uint32{70: 68, 71: 68}},
		{"a ring of two", map[int]uint32{71: 64, 66: 68}},
		{"a ring of all", map[int]uint32{115: 64, 66: 112}},
		{"a ring of all, one way", map[int]uint32{115: 64}},
		{"a ring that closes in the middle", map[int]uint32{115: 80}},
		{"the last slot goes on to a thread", map[int]uint32{115: 128}},
		{"the last slot goes on to a slot that holds nothing", map[int]uint32{115: 108, 110: 112}},
		{"the last slot goes on beyond memory", map[int]uint32{115: 4096}},
		{"the tree ends early", map[int]uint32{75: 0}},
		{"a slot is left out", map[int]uint32{75: 80, 82: 72}},
		{"a slot has a depth as the first", map[int]uint32{66: 65536}},
		{"a slot is deeper than it can be", map[int]uint32{170: 116 + 65536*3}},
		{"a slot is less deep than what it came of", map[int]uint32{170: 116}},
		{"a slot came of an original of another kind", map[int]uint32{170: 116 + 65536*2, 126: 168 + 65536}},
		{"a slot came of one with another badge", map[int]uint32{118: 136 + 65536*2}},
		{"a depth of all ones", map[int]uint32{118: 136 + 65536*65535}},
		{"Ready: the first is the second", map[int]uint32{18: 320}},
		{"Ready: the first is the last", map[int]uint32{18: 128}},
		{"Ready: the first is left out", map[int]uint32{18: 320, 337: 0, 240: 0}},
		{"Ready: the last is the first", map[int]uint32{19: 224}},
		{"Ready: the last is the second", map[int]uint32{19: 320}},
		{"Ready: the last is left out", map[int]uint32{19: 320, 336: 0, 145: 0}},
		{"Ready: the last is none", map[int]uint32{19: 0}},
		{"Ready: the first is none", map[int]uint32{18: 0}},
		{"Ready: both are none", map[int]uint32{18: 0, 19: 0}},
		{"Ready: in another priority", map[int]uint32{18: 0, 19: 0, 16: 224, 17: 128}},
		{"Ready: the first and the last of another list", map[int]uint32{18: 352, 19: 256, 481: 224, 482: 128}},
		{"Ready: the first is an endpoint", map[int]uint32{18: 480}},
		{"Ready: the first is a frame", map[int]uint32{18: 496}},
		{"Ready: the first lies beyond memory", map[int]uint32{18: 512}},
		{"Ready: the first lies just half in memory", map[int]uint32{18: 481}},
		{"Ready: the first lies far beyond memory", map[int]uint32{18: math.MaxUint32}},
		{"Ready: the last lies beyond memory", map[int]uint32{19: 512}},
		{"Ready: a ring of all", map[int]uint32{144: 224, 241: 128}},
		{"Ready: a ring of all, one way", map[int]uint32{144: 224}},
		{"Ready: a ring of two", map[int]uint32{336: 224}},
		{"Ready: a thread behind itself", map[int]uint32{240: 224}},
		{"Ready: a thread behind itself both ways", map[int]uint32{240: 224, 241: 224}},
		{"Ready: the last goes on to one that waits", map[int]uint32{144: 352}},
		{"Ready: the last goes on to one that waits, both ways", map[int]uint32{144: 352, 369: 128, 19: 256}},
		{"Ready: the last goes on beyond memory", map[int]uint32{144: 4096}},
		{"Ready: nothing ahead of the second", map[int]uint32{337: 0}},
		{"Ready: another one ahead of the second", map[int]uint32{337: 128}},
		{"Ready: something ahead of the first", map[int]uint32{241: 128}},
		{"Ready: the middle is left out", map[int]uint32{240: 128, 145: 224}},
		{"the endpoint: the first is the second", map[int]uint32{481: 160}},
		{"the endpoint: the last is the second", map[int]uint32{482: 160}},
		{"the endpoint: the last is none", map[int]uint32{482: 0}},
		{"the endpoint: a ring of all", map[int]uint32{272: 352, 369: 256}},
		{"the endpoint: the middle is left out", map[int]uint32{368: 256, 273: 352}},
		{"the endpoint: nobody", map[int]uint32{480: 0, 481: 0, 482: 0}},
		{"the endpoint: somebody with Kind 0", map[int]uint32{480: 0}},
		{"the endpoint: who waits with Kind 1", map[int]uint32{480: 1}},
		{"the endpoint: a fourth word", map[int]uint32{483: 1}},
		{"the notification: the first is the last", map[int]uint32{486: 288}},
		{"the notification: the last is the first", map[int]uint32{487: 192}},
		{"the notification: a ring of all", map[int]uint32{304: 192, 209: 288}},
		{"the notification: the middle is left out", map[int]uint32{208: 288, 305: 192}},
		{"the notification: nobody", map[int]uint32{484: 0, 486: 0, 487: 0}},
		{"the notification: Active with somebody", map[int]uint32{484: 2}},
		{"the notification: its lists turned", map[int]uint32{486: 288, 487: 192}},
		{"a thread that was called back", map[int]uint32{140: 0}},
		{"a thread of a greater memory", map[int]uint32{65: 512}},
		{"a region that is larger than memory", map[int]uint32{112: 1 + 16 + 256*11, 113: 0}},
	}
	words := impl.LayMake(kernSmall())
	for _, c := range cases {
		other := slices.Clone(words)
		for at, word := range c.change {
			other[at] = word
		}
		if slices.Equal(other, words) {
			t.Errorf("%s: nothing is changed", c.name)
		}
		refused(t, c.name, other)
	}
}

// Changes of links that go together are the words of another state.
func TestLayLinkedAnew(t *testing.T) {
	cases := []struct {
		name   string
		change map[int]uint32
		want   func(k *impl.Kern)
	}{
		{"the middle goes to the end", map[int]uint32{240: 128, 145: 224, 144: 320, 337: 128, 336: 0, 19: 320}, func(k *impl.Kern) { k.Ready[5] = []int{224, 128, 320} }},
		{"the first goes to the end", map[int]uint32{18: 320, 337: 0, 144: 224, 241: 128, 240: 0, 19: 224}, func(k *impl.Kern) { k.Ready[5] = []int{320, 128, 224} }},
		{"the last becomes idle", map[int]uint32{19: 320, 336: 0, 145: 0, 140: 0}, func(k *impl.Kern) { k.Ready[5] = []int{224, 320}; threadOf(k, 128).State = impl.KernIdle }},
		{"the only one that is left", map[int]uint32{18: 320, 19: 320, 336: 0, 337: 0, 240: 0, 145: 0, 140: 0, 236: 0}, func(k *impl.Kern) {
			k.Ready[5] = []int{320}
			threadOf(k, 128).State, threadOf(k, 224).State = impl.KernIdle, impl.KernIdle
		}},
		{"another priority for all", map[int]uint32{18: 0, 19: 0, 22: 224, 23: 128, 141: 7, 237: 7, 333: 7}, func(k *impl.Kern) {
			k.Ready[7], k.Ready[5] = k.Ready[5], nil
			threadOf(k, 128).Prio, threadOf(k, 224).Prio, threadOf(k, 320).Prio = 7, 7, 7
		}},
		{"all send in place of waiting", map[int]uint32{480: 1, 172: 2, 268: 2, 364: 2}, func(k *impl.Kern) {
			k.Ends[0].Kind = 1
			threadOf(k, 160).State, threadOf(k, 256).State, threadOf(k, 352).State = impl.KernSends, impl.KernSends, impl.KernSends
		}},
		{"the first two slots exchanged", map[int]uint32{2: 68, 70: 0, 71: 64, 66: 68, 67: 72, 74: 64}, func(k *impl.Kern) { k.Slots[0], k.Slots[1] = k.Slots[1], k.Slots[0] }},
		{"the last slot is gone, with its frame", map[int]uint32{127: 0, 112: 0, 113: 0, 114: 0, 496: 0, 498: 0, 500: 0, 502: 0, 504: 0, 506: 0, 508: 0, 510: 0, 511: 0}, func(k *impl.Kern) {
			cutSlot(k, 112)
			k.Frames = nil
		}},
		{"a slot comes of another one", map[int]uint32{170: 116 + 65536}, func(k *impl.Kern) { slotOf(k, 168).Depth = 1 }},
		{"a thread's number", map[int]uint32{142: 6, 151: 9, 153: math.MaxUint32}, func(k *impl.Kern) {
			threadOf(k, 128).Max, threadOf(k, 128).Out = 6, [3]uint32{9, 0, math.MaxUint32}
		}},
	}
	for _, c := range cases {
		k, words := kernSmall(), impl.LayMake(kernSmall())
		for at, word := range c.change {
			words[at] = word
		}
		c.want(&k)
		if !checkWords(t, words) || !checkLay(t, k) {
			t.Errorf("%s: refused", c.name)
		}
		if other := firstOther(words, impl.LayMake(k)); other != "" {
			t.Errorf("%s: %s", c.name, other)
		}
	}
}

// Changes of many words of states made by chance.
func TestLayTurnedWords(t *testing.T) {
	r := rand.New(rand.NewSource(65))
	oks, others := 0, 0
	for range 400 {
		k := anyKern(r, r.Intn(50))
		words := impl.LayMake(k)
		var named []int
		for at := range usedWords(k) {
			named = append(named, at)
		}
		slices.Sort(named)
		for range 40 {
			other := slices.Clone(words)
			for range 1 + r.Intn(4) {
				a, b := named[r.Intn(len(named))], named[r.Intn(len(named))]
				switch r.Intn(5) {
				case 0:
					other[a], other[b] = other[b], other[a]
				case 1:
					other[a] = other[b]
				case 2:
					other[a] ^= 1 << r.Intn(32)
				case 3:
					other[a] = uint32(r.Intn(len(words)))
				default:
					other[r.Intn(len(other))] = r.Uint32() >> r.Intn(33)
				}
			}
			if checkWords(t, other) {
				oks++
			} else {
				others++
			}
		}
	}
	if oks < 300 || others < 10000 {
		t.Error("the changes are not as they were meant", oks, others)
	}
}

func TestLaySizes(t *testing.T) {
	refused(t, "no words", nil)
	refused(t, "an empty list", []uint32{})
	for _, k := range []impl.Kern{{Bits: 9}, {Bits: 10}, {Bits: 11}, {Bits: 12}, kernSmall(), kernFull()} {
		words := impl.LayMake(k)
		long := append(slices.Clone(words), make([]uint32, 4200)...)
		for size := range long {
			_, ok := impl.LayRead(long[:size])
			if ok != (size == len(words)) {
				t.Fatal(size, "words of", len(words))
			}
		}
		for _, size := range []int{8192, 65536, 1 << 20} {
			refused(t, "far too many", append(slices.Clone(words), make([]uint32, size-len(words))...))
		}
		// As many words as there may be, but not as word 0 says.
		for _, size := range []int{512, 1024, 2048, 4096} {
			for _, bits := range []uint32{0, 1, 8, 9, 10, 11, 12, 13, 14, 31, 32, 33, 64, 64 + 9, 256 + 9, 65536 + 9, 1<<31 + 9, 1 << 31, math.MaxUint32} {
				other := slices.Clone(long[:size])
				other[0] = bits
				_, ok := impl.LayRead(other)
				if ok && 1<<bits != size {
					t.Error(size, "words with word 0", bits)
				}
				checkWords(t, other)
			}
		}
	}
}

// Memory that is larger than the state needs has the same words ahead, but for word 0.
func TestLayLargerMemory(t *testing.T) {
	for _, k := range layStates() {
		for bits := k.Bits; bits <= 12; bits++ {
			c := k
			c.Bits = bits
			if !checkLay(t, c) {
				t.Fatal(bits)
			}
			small, large := impl.LayMake(k), impl.LayMake(c)
			if large[0] != uint32(bits) || !slices.Equal(large[1:len(small)], small[1:]) {
				t.Error(bits)
			}
		}
	}
}

func TestLayWildWords(t *testing.T) {
	r := rand.New(rand.NewSource(75))
	for _, size := range []int{1, 2, 23, 24, 128, 511, 512, 513, 1024, 2048, 4096, 4097} {
		ones := make([]uint32, size)
		for i := range ones {
			ones[i] = math.MaxUint32
		}
		refused(t, "all ones", ones)
		for bits := uint32(9); bits <= 12; bits++ {
			ones[0] = bits
			refused(t, "all ones but word 0", ones)
		}
		refused(t, "all zeros", make([]uint32, size))
		for _, word := range []uint32{1, 4, 9, 12, 64, 128, 1 << 16, 1 << 31} {
			refused(t, "all alike", slices.Repeat([]uint32{word}, size))
		}
	}
	for range 3000 {
		bits := 9 + r.Intn(4)
		words := make([]uint32, 1<<bits)
		dense := 1 + r.Intn(100)
		for i := range words {
			if r.Intn(100) >= dense {
				continue
			}
			switch r.Intn(4) {
			case 0:
				words[i] = uint32(r.Intn(8))
			case 1:
				words[i] = uint32(r.Intn(len(words))) &^ 3
			case 2:
				words[i] = uint32(r.Intn(12))<<16 | uint32(r.Intn(len(words)))&^3
			default:
				words[i] = r.Uint32()
			}
		}
		words[0] = uint32(bits)
		checkWords(t, words)
	}
}

// A chain of slots that is made by chance, with links that go both ways, but nothing else in order.
func TestLayWildSlots(t *testing.T) {
	r := rand.New(rand.NewSource(85))
	for range 2000 {
		bits := 9 + r.Intn(4)
		words := make(layWords, 1<<bits)
		words.put(0, bits)
		var slots []impl.TreeSlot
		for range r.Intn(12) {
			kind := 1 + r.Intn(7)
			size := []int{4, 8, 32, 4, 4, 1, 32}[kind-1]
			c := impl.Cap{Kind: kind, Addr: r.Intn(4096/size) * size, Bits: []int{2, 1, 0, 0, 0, r.Intn(2), 0}[kind-1], Orig: kind != impl.CapReply}
			slots = append(slots, impl.TreeSlot{At: r.Intn(1 << bits), Cap: c, Depth: r.Intn(3)})
		}
		words.putSlots(slots)
		checkWords(t, words)
	}
}

func TestLayArgumentsStay(t *testing.T) {
	r := rand.New(rand.NewSource(95))
	states := layStates()
	for range 40 {
		k := anyKern(r, 30)
		states = append(states, k, turned(r, k, 2), wildKern(r))
	}
	for _, k := range states {
		a := sparedKern(k)
		whole := wholeKern(a)
		words := impl.LayMake(a)
		if !reflect.DeepEqual(wholeKern(a), whole) {
			t.Fatalf("LayMake writes into its argument\n%+v", k)
		}
		if !slices.Equal(words, impl.LayMake(k)) {
			t.Fatalf("what stands behind the end of a list counts\n%+v", k)
		}
		for _, other := range [][]uint32{words, slices.Repeat([]uint32{9}, 512)} {
			if len(other) > 0 && r.Intn(2) == 0 {
				other[r.Intn(len(other))] ^= 1 << r.Intn(32)
			}
			spare := spared(other, 77)
			before := slices.Clone(spare[:cap(spare)])
			first, ok := impl.LayRead(spare)
			if !slices.Equal(spare[:cap(spare)], before) {
				t.Fatalf("LayRead writes into its argument\n%v", other)
			}
			again, okAgain := impl.LayRead(other)
			if ok != okAgain || !wantKernSame(first, again) {
				t.Fatalf("two answers of the same words\n%v", other)
			}
		}
	}
}

// memoryOf is where the memory of each list lies, with its spare room.
func memoryOf(v reflect.Value) [][2]uintptr {
	var spans [][2]uintptr
	eachList(v, "", func(path string, list reflect.Value) {
		if list.Cap() > 0 {
			from := list.Pointer()
			spans = append(spans, [2]uintptr{from, from + uintptr(list.Cap())*list.Type().Elem().Size()})
		}
	})
	return spans
}

// Answers are new memory, with their spare room: they share none with the argument, and no two of their lists share any.
func TestLayAnswersStay(t *testing.T) {
	r := rand.New(rand.NewSource(105))
	states := append(layStates(), kernQueues([7]int{3, 3, 3, 3, 3, 3, 3}, false))
	for range 20 {
		states = append(states, anyKern(r, 50))
	}
	for _, k := range states {
		words := impl.LayMake(k)
		back, ok := impl.LayRead(words)
		if !ok {
			t.Fatalf("not read\n%+v", k)
		}
		spans := memoryOf(reflect.ValueOf(&back).Elem())
		spans = append(spans, memoryOf(reflect.ValueOf(&k).Elem())...)
		spans = append(spans, memoryOf(reflect.ValueOf(&words).Elem())...)
		for i, a := range spans {
			for _, b := range spans[:i] {
				if a[0] < b[1] && b[0] < a[1] {
					t.Fatalf("lists share memory\n%+v", k)
				}
			}
		}
		before := slices.Clone(words)
		for i := range words {
			words[i] = 77
		}
		if !wantKernSame(back, k) || !slices.Equal(impl.LayMake(k), before) || !slices.Equal(impl.LayMake(back), before) {
			t.Fatalf("an answer changed with its argument\n%+v", k)
		}
	}
}
