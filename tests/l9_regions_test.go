package tests

import (
	"cmp"
	"math/rand"
	"slices"

	"loop.example/donjon/impl"
)

// The document's words on making, written out anew.

// makeCall is the arguments of both calls, behind the state.
type makeCall struct {
	from int
	kind int
	bits int
	to   int
}

func (c makeCall) do(k impl.Kern) (impl.Kern, int) {
	return impl.MakeDo(k, c.from, c.kind, c.bits, c.to)
}

func (c makeCall) code(k impl.Kern) int { return impl.MakeCode(k, c.from, c.kind, c.bits, c.to) }

// sizeOfNew is how many words an object has; 0, if there is none of the kind and these bits.
func sizeOfNew(kind int, bits int) int {
	switch {
	case kind == 1 && bits >= 2 && bits <= 11, kind == 6 && bits >= 0 && bits <= 6:
		return pow(bits)
	case kind == 2 && bits >= 1 && bits <= 5:
		return 4 * pow(bits)
	case kind == 3 && bits == 0:
		return 32
	case kind == 4 && bits == 0, kind == 5 && bits == 0:
		return 4
	}
	return 0
}

func placeOf(k impl.Kern, at int) int {
	return slices.IndexFunc(k.Slots, func(s impl.TreeSlot) bool { return s.At == at })
}

// laidAt is where an object of so many words begins, out of the region at a place of the tree.
func laidAt(k impl.Kern, i int, size int) int {
	at := k.Slots[i].Cap.Addr
	if !bareOf(k.Slots, i) {
		at += k.Slots[i].Cap.Free
	}
	for at%size != 0 {
		at++
	}
	return at
}

// slotOfNode says whether an address is that of a slot of a node whose original is there.
func slotOfNode(k impl.Kern, at int) bool {
	for _, s := range k.Slots {
		if s.Cap.Kind != 2 || !s.Cap.Orig {
			continue
		}
		for n := range pow(s.Cap.Bits) {
			if at == s.Cap.Addr+4*n {
				return true
			}
		}
	}
	return false
}

// wantMakeCode is for a state that is ok.
func wantMakeCode(k impl.Kern, c makeCall) int {
	i := placeOf(k, c.from)
	if i < 0 {
		return 7
	}
	if k.Slots[i].Cap.Kind != 1 {
		return 4
	}
	size := sizeOfNew(c.kind, c.bits)
	if size == 0 || !slotOfNode(k, c.to) {
		return 8
	}
	if placeOf(k, c.to) >= 0 {
		return 6
	}
	if k.Slots[i].Depth >= 11 || len(k.Slots) >= 299 {
		return 11
	}
	region := k.Slots[i].Cap
	if laidAt(k, i, size)+size > region.Addr+pow(region.Bits) {
		return 9
	}
	return 0
}

// wantMakeDo is for a state that is ok.
func wantMakeDo(k impl.Kern, c makeCall) (impl.Kern, int) {
	w := kernCopy(k)
	if code := wantMakeCode(k, c); code != 0 {
		return w, code
	}
	i := placeOf(k, c.from)
	size := sizeOfNew(c.kind, c.bits)
	at := laidAt(k, i, size)
	w.Slots[i].Cap.Free = at + size - k.Slots[i].Cap.Addr
	original := impl.Cap{Kind: c.kind, Addr: at, Bits: c.bits, Rights: []int{0, 0, 0, 0, 7, 3, 3}[c.kind], Orig: true}
	w.Slots = slices.Insert(w.Slots, i+1, impl.TreeSlot{At: c.to, Cap: original, Depth: k.Slots[i].Depth + 1})
	switch c.kind {
	case 3:
		w.Threads = append(w.Threads, impl.KernThread{At: at, Slice: 4})
		slices.SortFunc(w.Threads, func(a, b impl.KernThread) int { return cmp.Compare(a.At, b.At) })
	case 4:
		w.Ends = append(w.Ends, impl.KernEnd{At: at})
		slices.SortFunc(w.Ends, func(a, b impl.KernEnd) int { return cmp.Compare(a.At, b.At) })
	case 5:
		w.Notes = append(w.Notes, impl.KernNote{At: at})
		slices.SortFunc(w.Notes, func(a, b impl.KernNote) int { return cmp.Compare(a.At, b.At) })
	case 6:
		w.Frames = append(w.Frames, impl.KernFrame{At: at, Data: make([]uint32, size)})
		slices.SortFunc(w.Frames, func(a, b impl.KernFrame) int { return cmp.Compare(a.At, b.At) })
	}
	return w, 0
}

// allShapes is each kind with each of the bits that it may have.
func allShapes() []makeCall {
	var shapes []makeCall
	for kind := 1; kind <= 6; kind++ {
		for bits := range 12 {
			if sizeOfNew(kind, bits) > 0 {
				shapes = append(shapes, makeCall{kind: kind, bits: bits})
			}
		}
	}
	return shapes
}

// States out of whose regions something can be made.

// kernYard is regions of many sorts, with objects of each kind ahead of and behind them in memory. The node at 128 has free slots from 172 on, the one at 1536 has only such.
//
//	132: nothing came of it, Free is 0
//	136: nothing came of it, Free is not 0
//	140: three objects came of it, one of them the region in 148
//	148: an object came of it
//	100: nothing is left of it
//	164: a large one, nothing came of it
//	104: it ends where memory does, one word is left
//	168: of as many words as a frame may have
func kernYard() impl.Kern {
	return impl.Kern{
		Bits:  12,
		Ticks: 5,
		Slots: []impl.TreeSlot{
			{At: 64, Cap: origOf(impl.CapNode, 128, 5)},
			{At: 256, Cap: copyOf(impl.CapNode, 128, 5), Depth: 1},
			{At: 128, Cap: copyOf(impl.CapNode, 128, 5), Depth: 1},
			{At: 68, Cap: origOf(impl.CapThread, 256, 0)},
			{At: 72, Cap: origOf(impl.CapThread, 3072, 0)},
			{At: 76, Cap: origOf(impl.CapEnd, 288, 0)},
			{At: 80, Cap: origOf(impl.CapEnd, 3104, 0)},
			{At: 84, Cap: origOf(impl.CapNote, 292, 0)},
			{At: 88, Cap: origOf(impl.CapNote, 3108, 0)},
			{At: 92, Cap: origOf(impl.CapFrame, 296, 3)},
			{At: 96, Cap: origOf(impl.CapFrame, 3112, 1)},
			{At: 132, Cap: regionOf(512, 9, 0)},
			{At: 136, Cap: regionOf(1024, 8, 100)},
			{At: 140, Cap: regionOf(1280, 8, 40)},
			{At: 144, Cap: origOf(impl.CapEnd, 1280, 0), Depth: 1},
			{At: 148, Cap: regionOf(1296, 4, 4), Depth: 1},
			{At: 152, Cap: origOf(impl.CapNote, 1296, 0), Depth: 2},
			{At: 156, Cap: origOf(impl.CapFrame, 1312, 3), Depth: 1},
			{At: 100, Cap: regionOf(1536, 5, 32)},
			{At: 160, Cap: origOf(impl.CapNode, 1536, 3), Depth: 1},
			{At: 164, Cap: regionOf(2048, 10, 0)},
			{At: 104, Cap: regionOf(3840, 8, 255)},
			{At: 168, Cap: regionOf(3968, 6, 0), Depth: 1},
			{At: 116, Cap: origOf(impl.CapFrame, 4032, 5), Depth: 1},
		},
		Threads: []impl.KernThread{
			{At: 256, State: impl.KernRuns, Prio: 2, Max: 5, Slice: 3, Out: [3]uint32{0, 9, 9}, Pend: impl.KernDeletes, PendRef: 7},
			{At: 3072, State: impl.KernWaits, Prio: 7, Max: 7, Slice: 1, On: 3104, Xfer: 8},
		},
		Ends:   []impl.KernEnd{{At: 288}, {At: 1280}, {At: 3104, Kind: 2, List: []int{3072}}},
		Notes:  []impl.KernNote{{At: 292, Active: true, Word: 6}, {At: 1296}, {At: 3108}},
		Frames: []impl.KernFrame{{At: 296, Data: []uint32{1, 2, 3, 4, 5, 6, 7, 8}}, {At: 1312, Data: make([]uint32, 8)}, {At: 3112, Data: []uint32{9, 9}}, {At: 4032, Data: slices.Repeat([]uint32{3}, 32)}},
		Ready:  [8][]int{2: {256}},
	}
}

// rowRegion is the slot of the one region of kernRow.
const rowRegion = 100

// rowSlot is where kernRow has its free slots: so many that they reach for as many slots as there may be.
func rowSlot(i int) int { return 128 + 4*i }

// kernRow is one region, of which nothing came, and nodes with nothing in them.
func kernRow(addr int, bits int, free int) impl.Kern {
	k := impl.Kern{Bits: 12}
	for i := range 9 {
		k.Slots = append(k.Slots, impl.TreeSlot{At: 64 + 4*i, Cap: origOf(impl.CapNode, 128+128*i, 5)})
	}
	k.Slots = append(k.Slots, impl.TreeSlot{At: rowRegion, Cap: regionOf(addr, bits, free)})
	return k
}

// Where kernTight has what its tests name.
const (
	tightFree   = 256  // the first of two slots of a node that hold nothing
	tightEnd    = 116  // the slot of the original of an endpoint
	tightThread = 1664 // a thread, whose space holds something
)

// tightRegion is the slot of the region of kernTight that has this depth.
func tightRegion(depth int) int { return 128 + 4*depth }

// kernTight is regions of 128 words of which each came of the one ahead of it, down to a depth, so many slots in all (if there are not more already), and nothing left of the last region, if it is full.
func kernTight(depth int, slots int, full bool) impl.Kern {
	k := impl.Kern{Bits: 12, Threads: []impl.KernThread{{At: tightThread, Slice: 4}}, Ends: []impl.KernEnd{{At: 1696}}}
	for i := range 12 {
		k.Slots = append(k.Slots, impl.TreeSlot{At: 64 + 4*i, Cap: origOf(impl.CapNode, 128+128*i, 5)})
	}
	k.Slots = append(k.Slots,
		impl.TreeSlot{At: tightThread, Cap: copyOf(impl.CapNode, 1536, 5), Depth: 1},
		impl.TreeSlot{At: 112, Cap: origOf(impl.CapThread, tightThread, 0)})
	for i := range depth + 1 {
		k.Slots = append(k.Slots, impl.TreeSlot{At: tightRegion(i), Cap: regionOf(2048, 7, 128), Depth: i})
	}
	if full {
		k.Slots = append(k.Slots, impl.TreeSlot{At: tightRegion(depth + 1), Cap: regionOf(2048, 7, 0), Depth: depth + 1})
	}
	k.Slots = append(k.Slots, impl.TreeSlot{At: tightEnd, Cap: origOf(impl.CapEnd, 1696, 0)})
	for at := 384; len(k.Slots) < slots; at += 4 {
		k.Slots = append(k.Slots, impl.TreeSlot{At: at, Cap: endOf(1696, 1, at), Depth: 1})
	}
	return k
}

// makeStates is the states that are written out.
func makeStates() []impl.Kern {
	return []impl.Kern{
		kernYard(), kernFull(), kernNested(5), kernRegions(), kernSmall(), kernSpaces(), {Bits: 9}, {Bits: 12, Ticks: 1000000},
		kernRow(2048, 11, 0), kernRow(2048, 11, 2048), kernRow(1280, 2, 1), kernTight(10, 0, false), kernTight(11, 299, true), kernTight(12, 300, false),
	}
}

// freeSlots is the slots of nodes that hold nothing.
func freeSlots(k impl.Kern) []int {
	var list []int
	for _, s := range k.Slots {
		if s.Cap.Kind != impl.CapNode || !s.Cap.Orig {
			continue
		}
		for n := range pow(s.Cap.Bits) {
			if placeOf(k, s.Cap.Addr+4*n) < 0 {
				list = append(list, s.Cap.Addr+4*n)
			}
		}
	}
	return list
}

// regionSlots is the slots that hold regions.
func regionSlots(k impl.Kern) []int {
	var list []int
	for _, s := range k.Slots {
		if s.Cap.Kind == impl.CapUntyped {
			list = append(list, s.At)
		}
	}
	return list
}

func oneOf(r *rand.Rand, list []int) int {
	if len(list) == 0 {
		return 0
	}
	return list[r.Intn(len(list))]
}

// anyMake is a call of a state by chance: mostly of a region, of a kind that is one, into a free slot.
func anyMake(r *rand.Rand, k impl.Kern) makeCall {
	shapes := allShapes()
	c := shapes[r.Intn(len(shapes))]
	for range r.Intn(3) {
		// Small ones go on longer.
		if other := shapes[r.Intn(len(shapes))]; sizeOfNew(other.kind, other.bits) < sizeOfNew(c.kind, c.bits) {
			c = other
		}
	}
	c.from, c.to = oneOf(r, regionSlots(k)), oneOf(r, freeSlots(k))
	switch r.Intn(12) {
	case 0:
		c.from = oneOf(r, kernAsked(k))
	case 1:
		c.to = oneOf(r, kernAsked(k))
	case 2:
		c.kind, c.bits = r.Intn(9)-1, r.Intn(14)-1
	case 3:
		c.kind, c.bits = oneOf(r, farInts), oneOf(r, farInts)
	}
	return c
}
