package tests

import (
	"fmt"
	"math/rand"
	"slices"

	"loop.example/donjon/impl"
)

// The document's words on handing on, written out anew.

// The three calls.
const (
	handCopies = iota
	handMints
	handMoves
)

// handCall is one of the three, with its arguments behind the state; those that it has not are not looked at.
type handCall struct {
	op     int
	from   int
	to     int
	rights uint32
	x      uint32
}

func (c handCall) String() string {
	return fmt.Sprintf("%s from %d to %d rights %d x %d", []string{"copy", "mint", "move"}[c.op], c.from, c.to, c.rights, c.x)
}

func (c handCall) do(k impl.Kern) (impl.Kern, int) {
	switch c.op {
	case handCopies:
		return impl.HandCopy(k, c.from, c.to, c.rights)
	case handMints:
		return impl.HandMint(k, c.from, c.to, c.rights, c.x)
	}
	return impl.HandMove(k, c.from, c.to)
}

// derives is what a copy or a mint makes of a capability.
func (c handCall) derives(of impl.Cap) (impl.Cap, bool) {
	if c.op == handCopies {
		return wantCapCopy(of, c.rights)
	}
	return wantCapMint(of, c.rights, c.x)
}

// wantOwnCode is the first code of those that each call has of its own.
func wantOwnCode(k impl.Kern, c handCall) int {
	s := k.Slots[placeOf(k, c.from)]
	_, derived := c.derives(s.Cap)
	switch {
	case c.op == handMoves && s.Cap.Orig:
		return 10
	case c.op == handMoves:
		return 0
	case c.op == handCopies && !derived:
		return 4
	case c.op == handMints && s.Cap.Kind != 4 && s.Cap.Kind != 5 && s.Cap.Kind != 2:
		return 4
	case c.op == handMints && !derived:
		return 8
	case s.Depth == 12, len(k.Slots) == 300:
		return 11
	}
	return 0
}

// wantHandCode is for a state that is ok.
func wantHandCode(k impl.Kern, c handCall) int {
	switch {
	case !slotOfNode(k, c.from), !slotOfNode(k, c.to):
		return 8
	case placeOf(k, c.from) < 0:
		return 7
	case placeOf(k, c.to) >= 0:
		return 6
	}
	return wantOwnCode(k, c)
}

// wantHand is for a state that is ok.
func wantHand(k impl.Kern, c handCall) (impl.Kern, int) {
	w := kernCopy(k)
	if code := wantHandCode(k, c); code != 0 {
		return w, code
	}
	if c.op == handMoves {
		slotOf(&w, c.from).At = c.to
		return w, 0
	}
	derived, _ := c.derives(slotOf(&k, c.from).Cap)
	putSlot(&w, c.from, c.to, derived)
	return w, 0
}

// States in which something can be handed on.

func noteOf(addr int, rights int, badge int) impl.Cap {
	return impl.Cap{Kind: impl.CapNote, Addr: addr, Rights: rights, Badge: badge}
}

func frameOf(addr int, bits int, rights int) impl.Cap {
	return impl.Cap{Kind: impl.CapFrame, Addr: addr, Bits: bits, Rights: rights}
}

// kernHands is nodes with capabilities of each kind, originals and copies of copies, and threads that run, call, send and listen. All of the thread's slots at 256 are taken. Free are the slots from 220 on of the node at 128 and those from 528 on of the node at 512, whose original lies in the first; the node at 416 has none.
func kernHands() impl.Kern {
	return impl.Kern{
		Bits:  11,
		Ticks: 9,
		Slots: []impl.TreeSlot{
			{At: 64, Cap: origOf(impl.CapNode, 128, 5)},
			{At: 256, Cap: copyOf(impl.CapNode, 128, 5), Depth: 1},
			{At: 172, Cap: guarded(128, 5, "101"), Depth: 1},
			{At: 176, Cap: copyOf(impl.CapNode, 128, 5), Depth: 2},
			{At: 416, Cap: copyOf(impl.CapNode, 128, 5), Depth: 1},
			{At: 68, Cap: origOf(impl.CapThread, 256, 0)},
			{At: 180, Cap: copyOf(impl.CapThread, 256, 0), Depth: 1},
			{At: 184, Cap: copyOf(impl.CapThread, 256, 0), Depth: 2},
			{At: 132, Cap: origOf(impl.CapThread, 288, 0)},
			{At: 260, Cap: copyOf(impl.CapReply, 288, 0), Depth: 1},
			{At: 188, Cap: copyOf(impl.CapThread, 288, 0), Depth: 1},
			{At: 72, Cap: origOf(impl.CapEnd, 320, 0)},
			{At: 140, Cap: endOf(320, 3, 0), Depth: 1},
			{At: 144, Cap: endOf(320, 3, 9), Depth: 2},
			{At: 148, Cap: endOf(320, 1, 9), Depth: 3},
			{At: 516, Cap: endOf(320, 2, 0), Depth: 2},
			{At: 264, Cap: endOf(320, 6, 77), Depth: 1},
			{At: 152, Cap: endOf(320, 0, 0), Depth: 1},
			{At: 160, Cap: origOf(impl.CapEnd, 424, 0)},
			{At: 420, Cap: endOf(424, 5, 0), Depth: 1},
			{At: 76, Cap: origOf(impl.CapNote, 324, 0)},
			{At: 156, Cap: noteOf(324, 3, 5), Depth: 1},
			{At: 192, Cap: noteOf(324, 1, 5), Depth: 2},
			{At: 520, Cap: noteOf(324, 2, 0), Depth: 1},
			{At: 164, Cap: origOf(impl.CapNote, 428, 0)},
			{At: 80, Cap: origOf(impl.CapFrame, 328, 3)},
			{At: 196, Cap: frameOf(328, 3, 3), Depth: 1},
			{At: 200, Cap: frameOf(328, 3, 1), Depth: 2},
			{At: 168, Cap: origOf(impl.CapFrame, 432, 2)},
			{At: 524, Cap: frameOf(432, 2, 2), Depth: 1},
			{At: 84, Cap: origOf(impl.CapThread, 352, 0)},
			{At: 88, Cap: origOf(impl.CapThread, 384, 0)},
			{At: 92, Cap: origOf(impl.CapNode, 416, 1)},
			{At: 204, Cap: copyOf(impl.CapNode, 416, 1), Depth: 1},
			{At: 208, Cap: guarded(416, 1, "01"), Depth: 2},
			{At: 96, Cap: regionOf(512, 8, 64)},
			{At: 128, Cap: origOf(impl.CapNode, 512, 3), Depth: 1},
			{At: 212, Cap: copyOf(impl.CapNode, 512, 3), Depth: 2},
			{At: 352, Cap: copyOf(impl.CapNode, 512, 3), Depth: 2},
			{At: 512, Cap: origOf(impl.CapEnd, 544, 0), Depth: 1},
			{At: 216, Cap: endOf(544, 7, 65535), Depth: 2},
			{At: 136, Cap: regionOf(768, 6, 0)},
		},
		Threads: []impl.KernThread{
			{At: 256, State: impl.KernRuns, Prio: 3, Max: 7, Slice: 2, Out: [3]uint32{4, 5, 6}, Pend: impl.KernRevokes, PendRef: 0x50003},
			{At: 288, State: impl.KernCalls, Prio: 1, Slice: 3},
			{At: 352, State: impl.KernSends, Slice: 1, On: 320, Badge: 9, Msg: 42, Flags: impl.KernGrant, Xfer: 0x30001},
			{At: 384, State: impl.KernListens, Max: 2, Slice: 4, On: 324},
		},
		Ends:   []impl.KernEnd{{At: 320, Kind: 1, List: []int{352}}, {At: 424}, {At: 544}},
		Notes:  []impl.KernNote{{At: 324, List: []int{384}}, {At: 428, Active: true, Word: 6}},
		Frames: []impl.KernFrame{{At: 328, Data: []uint32{1, 2, 3, 4, 5, 6, 7, 8}}, {At: 432, Data: []uint32{0, 9, 0, 9}}},
		Ready:  [8][]int{3: {256}},
	}
}

// Where kernSource has what its tests name: the rest of the node at 128 is free.
const (
	sourceOrig = 128
	sourceCopy = 132
)

// kernSource is a state with one object beside its node, whose original, or a copy, is a capability that is asked for; and the slot in which it is.
func kernSource(c impl.Cap) (impl.Kern, int) {
	m := &kernMaker{r: rand.New(rand.NewSource(1)), k: impl.Kern{Bits: 12}}
	m.k.Slots = []impl.TreeSlot{{At: 64, Cap: origOf(impl.CapNode, 128, 5)}, {At: sourceOrig, Cap: origOf(c.Kind, c.Addr, c.Bits)}}
	m.object(c.Kind, c.Addr, c.Bits)
	if c.Orig {
		m.k.Slots[1].Cap = c
		return m.k, sourceOrig
	}
	putSlot(&m.k, sourceOrig, sourceCopy, c)
	return m.k, sourceCopy
}

// sourceCaps is capabilities of each kind, with each of their bits and sets of rights, as originals and as copies.
func sourceCaps() []impl.Cap {
	var list []impl.Cap
	for _, shape := range allShapes() {
		for rights := range impl.CapMax(shape.kind) + 1 {
			c := impl.Cap{Kind: shape.kind, Addr: 2048, Bits: shape.bits, Rights: rights}
			beside := []impl.Cap{c}
			switch shape.kind {
			case impl.CapEnd, impl.CapNote:
				with, most := c, c
				with.Badge, most.Badge = 1, 65535
				beside = append(beside, with, most)
			case impl.CapNode:
				beside = append(beside, guarded(2048, shape.bits, "10"), guarded(2048, shape.bits, "11111111"))
			}
			for _, b := range beside {
				if b.Kind != impl.CapUntyped {
					list = append(list, b)
				}
				b.Orig = true
				list = append(list, b)
			}
		}
	}
	return list
}

// Where kernDeep has what its tests name; all of these are as deep as is asked for.
const (
	deepPlain  = 128 // an endpoint, no badge; an original, if the depth is 0
	deepBadged = 132 // an endpoint with a badge
	deepFrame  = 136 // a frame
	deepRegion = 140 // a region
	deepOrig   = 144 // the original of an endpoint
	deepFree   = 160 // the first of the slots of its node that hold nothing
	deepThread = 1664
)

// deepCopies puts copies of an original in the kernel's slots, each of which came of the one ahead of it, down to a depth; the last comes into a slot that is named, the others into those from an address on.
func deepCopies(k *impl.Kern, orig int, original impl.Cap, depth int, last int, others int, c impl.Cap) {
	if depth == 0 {
		original.Badge = c.Badge
		putSlot(k, 0, last, original)
		return
	}
	putSlot(k, 0, orig, original)
	up := orig
	for i := range depth - 1 {
		putSlot(k, up, others+4*i, c)
		up = others + 4*i
	}
	putSlot(k, up, last, c)
}

// deepRegions puts regions of which each came of the one ahead of it into slots from an address on, and into the last of so many words something that is to be as deep as asked for.
func deepRegions(k *impl.Kern, addr int, depth int, last int, others int, c impl.Cap) {
	up := 0
	for i := range depth {
		putSlot(k, up, others+4*i, regionOf(addr, 6, 64))
		up = others + 4*i
	}
	putSlot(k, up, last, c)
}

// kernDeep is capabilities of one depth, and so many slots in all (if there are not more already).
func kernDeep(depth int, slots int) impl.Kern {
	k := impl.Kern{
		Bits:    12,
		Threads: []impl.KernThread{{At: deepThread, Slice: 4}},
		Ends:    []impl.KernEnd{{At: 1696}, {At: 1700}, {At: 1704}, {At: 2112}},
		Frames:  []impl.KernFrame{{At: 1712, Data: []uint32{1, 2}}},
	}
	for i := range 12 {
		k.Slots = append(k.Slots, impl.TreeSlot{At: 64 + 4*i, Cap: origOf(impl.CapNode, 128+128*i, 5)})
	}
	k.Slots = append(k.Slots,
		impl.TreeSlot{At: deepThread, Cap: copyOf(impl.CapNode, 1536, 5), Depth: 1},
		impl.TreeSlot{At: 112, Cap: origOf(impl.CapThread, deepThread, 0)})
	deepCopies(&k, 116, origOf(impl.CapEnd, 1696, 0), depth, deepPlain, 256, endOf(1696, 7, 0))
	deepCopies(&k, 120, origOf(impl.CapEnd, 1700, 0), depth, deepBadged, 308, endOf(1700, 7, 5))
	deepCopies(&k, 124, origOf(impl.CapFrame, 1712, 1), depth, deepFrame, 360, frameOf(1712, 1, 3))
	deepRegions(&k, 2048, depth, deepRegion, 412, regionOf(2048, 6, 0))
	deepRegions(&k, 2112, depth, deepOrig, 464, origOf(impl.CapEnd, 2112, 0))
	putSlot(&k, 0, 516, origOf(impl.CapEnd, 1704, 0))
	for at := 520; len(k.Slots) < slots; at += 4 {
		k.Slots = append(k.Slots, impl.TreeSlot{At: at, Cap: endOf(1704, 1, at), Depth: 1})
	}
	return k
}

// handStates is the states that are written out.
func handStates() []impl.Kern {
	return []impl.Kern{
		kernHands(), kernFull(), kernYard(), kernNested(5), kernRegions(), kernSmall(), kernSpaces(), kernOneNode(3), {Bits: 9}, {Bits: 12, Ticks: 1000000},
		kernDeep(0, 0), kernDeep(11, 299), kernDeep(12, 300), kernTight(12, 300, false),
	}
}

// heldSlots is the slots of nodes that hold something.
func heldSlots(k impl.Kern) []int {
	var list []int
	for _, s := range k.Slots {
		if slotOfNode(k, s.At) {
			list = append(list, s.At)
		}
	}
	return list
}

// copySlots is those of them that hold no original.
func copySlots(k impl.Kern) []int {
	return slices.DeleteFunc(heldSlots(k), func(at int) bool { return slotOf(&k, at).Cap.Orig })
}

// anyX is a badge or a guard by chance, mostly one that is ok.
func anyX(r *rand.Rand) uint32 {
	bits := r.Intn(9)
	return []uint32{0, 1, 65535, uint32(r.Intn(65536)), uint32(bits<<16 | r.Intn(1<<bits)), 65536, 8<<16 | 255, 8<<16 | 256, 9 << 16, r.Uint32()}[r.Intn(10)]
}

// anyHand is a call of a state by chance: mostly from a slot that holds something into a free one.
func anyHand(r *rand.Rand, k impl.Kern) handCall {
	c := handCall{op: r.Intn(3), from: oneOf(r, heldSlots(k)), to: oneOf(r, freeSlots(k)), rights: uint32(r.Intn(8)), x: anyX(r)}
	if c.op == handMoves && r.Intn(4) > 0 {
		c.from = oneOf(r, copySlots(k))
	}
	switch r.Intn(14) {
	case 0:
		c.from = oneOf(r, kernAsked(k))
	case 1:
		c.to = oneOf(r, kernAsked(k))
	case 2:
		c.to = c.from
	case 3:
		c.to = oneOf(r, heldSlots(k))
	case 4:
		c.from = oneOf(r, freeSlots(k))
	case 5:
		c.rights = r.Uint32()
	}
	return c
}
