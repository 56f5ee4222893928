package tests

import (
	"math/rand"
	"slices"

	"loop.example/donjon/impl"
)

// The document's words on taking back, written out anew. All of these are for states that are ok.

// wantTold lets a thread, which stands in no list, go on with the answer that what it waited for is gone.
func wantTold(k *impl.Kern, at int) {
	th := threadOf(k, at)
	th.Out = [3]uint32{13, 0, 0}
	th.State = 1
	th.On, th.Badge, th.Msg, th.Flags, th.Xfer = 0, 0, 0, 0, 0
	wantBehind(k, at)
}

// wantNowhere takes a thread out of all lists there are.
func wantNowhere(k *impl.Kern, thread int) {
	other := func(at int) bool { return at == thread }
	for prio := range k.Ready {
		k.Ready[prio] = slices.DeleteFunc(k.Ready[prio], other)
	}
	for i := range k.Ends {
		e := &k.Ends[i]
		e.List = slices.DeleteFunc(e.List, other)
		if len(e.List) == 0 {
			e.Kind = 0
		}
	}
	for i := range k.Notes {
		k.Notes[i].List = slices.DeleteFunc(k.Notes[i].List, other)
	}
}

// waitersOf is who is told when a slot is dropped that holds this, in the order in which they are.
func waitersOf(k impl.Kern, c impl.Cap) []int {
	var list []int
	if c.Kind == 7 {
		list = []int{c.Addr}
	}
	for _, e := range k.Ends {
		if c.Kind == 4 && c.Orig && e.At == c.Addr {
			list = slices.Clone(e.List)
		}
	}
	for _, n := range k.Notes {
		if c.Kind == 5 && c.Orig && n.At == c.Addr {
			list = slices.Clone(n.List)
		}
	}
	return list
}

// wantDrop drops a slot that can go.
func wantDrop(k *impl.Kern, at int) {
	c := slotOf(k, at).Cap
	told := waitersOf(*k, c)
	dropOf(k, at)
	if c.Kind == 3 && c.Orig {
		wantNowhere(k, c.Addr)
	}
	for _, thread := range told {
		wantTold(k, thread)
	}
}

func wantReapOne(k impl.Kern, at int) (impl.Kern, int) {
	w := kernCopy(k)
	next := wantKernNext(k, at)
	if next >= 0 {
		wantDrop(&w, next)
	}
	return w, next
}

func wantReapLeft(k impl.Kern, at int, self bool) bool {
	i := placeOf(k, at)
	return i < 0 || !self && bareOf(k.Slots, i)
}

func wantReapRun(k impl.Kern, at int, self bool, n int) (impl.Kern, bool) {
	w := kernCopy(k)
	for ; n > 0 && !wantReapLeft(w, at, self); n-- {
		w, _ = wantReapOne(w, at)
	}
	return w, wantReapLeft(w, at, self)
}

// States of which something can be taken back.

// kernHouse is a region, in the slot at 68, with objects of each kind: a node whose original is in 128 and that holds nodes which lie in each other and a copy of itself, a region, threads in all states, one of which holds the reply to itself, endpoints with those who send and those who wait, notifications, frames. Beside it stand a node, threads, an endpoint, a notification and a frame that did not come of it, with copies of what lies there, waiting at what lies there, and the other way around.
func kernHouse() impl.Kern {
	return impl.Kern{
		Bits:  10,
		Ticks: 31,
		Slots: houseSlots(),
		Threads: []impl.KernThread{
			{At: 256, State: impl.KernRuns, Prio: 3, Max: 7, Slice: 4, Out: [3]uint32{0, 1, 2}, Pend: impl.KernDeletes, PendRef: 0x50002},
			{At: 288, State: impl.KernWaits, Prio: 2, Max: 1, Slice: 3, On: 560, Xfer: 0x50007, Out: [3]uint32{12, 8, 8}},
			{At: 352, State: impl.KernCalls, Prio: 2, Slice: 2, Out: [3]uint32{64, 7, 5}},
			{At: 384, Slice: 4, Prio: 6},
			{At: 416, State: impl.KernListens, Prio: 1, Max: 3, Slice: 1, On: 564},
			{At: 448, State: impl.KernSends, Prio: 4, Slice: 2, On: 736, Badge: 9, Msg: 77, Flags: impl.KernCall + impl.KernGrant, Xfer: 0x10001},
			{At: 576, State: impl.KernRuns, Prio: 3, Max: 3, Slice: 1, Out: [3]uint32{4, 4, 4}},
			{At: 608, State: impl.KernSends, Slice: 4, On: 320, Msg: 5},
			{At: 640, State: impl.KernCalls, Prio: 3, Max: 2, Slice: 3, Out: [3]uint32{9, 9, 9}},
			{At: 672, State: impl.KernWaits, Prio: 2, Slice: 1, On: 560},
			{At: 704, State: impl.KernListens, Prio: 1, Slice: 4, On: 564, Out: [3]uint32{13, 3, 3}},
			{At: 768, State: impl.KernSends, Prio: 4, Slice: 3, On: 736, Badge: 65535, Msg: 1 << 31, Flags: impl.KernCall},
			{At: 800, Prio: 5, Max: 5, Slice: 2, Out: [3]uint32{1, 0, 5}},
			{At: 864, State: impl.KernCalls, Prio: 6, Slice: 4},
			{At: 896, State: impl.KernRuns, Prio: 5, Max: 5, Slice: 2, Pend: impl.KernRevokes, PendRef: 0x30004},
		},
		Ends:   []impl.KernEnd{{At: 320, Kind: 1, List: []int{608}}, {At: 560, Kind: 2, List: []int{672, 288}}, {At: 736, Kind: 1, List: []int{448, 768}}, {At: 844}},
		Notes:  []impl.KernNote{{At: 324, Active: true, Word: 3}, {At: 564, List: []int{704, 416}}, {At: 740, Active: true, Word: 9}},
		Frames: []impl.KernFrame{{At: 328, Data: []uint32{6, 0, 6, 0}}, {At: 744, Data: []uint32{1, 2, 3, 4, 5, 6, 7, 1<<32 - 1}}, {At: 840, Data: []uint32{0, 0, 8, 8}}},
		Ready:  [8][]int{3: {256, 576}, 5: {896}},
	}
}

func houseSlots() []impl.TreeSlot {
	return []impl.TreeSlot{
		{At: 64, Cap: origOf(impl.CapNode, 128, 5)},
		{At: 256, Cap: copyOf(impl.CapNode, 128, 5), Depth: 1},
		{At: 608, Cap: copyOf(impl.CapNode, 128, 5), Depth: 1},
		{At: 540, Cap: copyOf(impl.CapNode, 128, 5), Depth: 1},
		{At: 68, Cap: regionOf(512, 9, 416)},
		{At: 128, Cap: origOf(impl.CapNode, 512, 3), Depth: 1},
		{At: 172, Cap: copyOf(impl.CapNode, 512, 3), Depth: 2},
		{At: 176, Cap: guarded(512, 3, "01"), Depth: 3},
		{At: 536, Cap: copyOf(impl.CapNode, 512, 3), Depth: 2},
		{At: 576, Cap: copyOf(impl.CapNode, 512, 3), Depth: 2},
		{At: 512, Cap: origOf(impl.CapNode, 544, 1), Depth: 1},
		{At: 544, Cap: origOf(impl.CapNode, 552, 1), Depth: 1},
		{At: 552, Cap: origOf(impl.CapEnd, 560, 0), Depth: 1},
		{At: 180, Cap: endOf(560, 3, 5), Depth: 2},
		{At: 184, Cap: endOf(560, 1, 5), Depth: 3},
		{At: 556, Cap: endOf(560, 6, 0), Depth: 2},
		{At: 264, Cap: endOf(560, 6, 1), Depth: 2},
		{At: 516, Cap: origOf(impl.CapNote, 564, 0), Depth: 1},
		{At: 188, Cap: noteOf(564, 3, 0), Depth: 2},
		{At: 520, Cap: origOf(impl.CapThread, 576, 0), Depth: 1},
		{At: 196, Cap: copyOf(impl.CapThread, 576, 0), Depth: 2},
		{At: 200, Cap: copyOf(impl.CapThread, 576, 0), Depth: 3},
		{At: 132, Cap: origOf(impl.CapThread, 608, 0), Depth: 1},
		{At: 136, Cap: origOf(impl.CapThread, 640, 0), Depth: 1},
		{At: 388, Cap: copyOf(impl.CapReply, 640, 0), Depth: 2},
		{At: 140, Cap: origOf(impl.CapThread, 672, 0), Depth: 1},
		{At: 144, Cap: origOf(impl.CapThread, 704, 0), Depth: 1},
		{At: 148, Cap: origOf(impl.CapEnd, 736, 0), Depth: 1},
		{At: 204, Cap: endOf(736, 7, 9), Depth: 2},
		{At: 152, Cap: origOf(impl.CapNote, 740, 0), Depth: 1},
		{At: 524, Cap: origOf(impl.CapFrame, 744, 3), Depth: 1},
		{At: 192, Cap: frameOf(744, 3, 1), Depth: 2},
		{At: 156, Cap: origOf(impl.CapThread, 768, 0), Depth: 1},
		{At: 160, Cap: origOf(impl.CapThread, 800, 0), Depth: 1},
		{At: 528, Cap: regionOf(832, 5, 16), Depth: 1},
		{At: 532, Cap: origOf(impl.CapNode, 832, 1), Depth: 2},
		{At: 832, Cap: origOf(impl.CapFrame, 840, 2), Depth: 2},
		{At: 836, Cap: origOf(impl.CapEnd, 844, 0), Depth: 2},
		{At: 164, Cap: origOf(impl.CapThread, 864, 0), Depth: 1},
		{At: 868, Cap: copyOf(impl.CapReply, 864, 0), Depth: 2},
		{At: 168, Cap: origOf(impl.CapThread, 896, 0), Depth: 1},
		{At: 72, Cap: origOf(impl.CapThread, 256, 0)},
		{At: 76, Cap: origOf(impl.CapThread, 288, 0)},
		{At: 80, Cap: origOf(impl.CapEnd, 320, 0)},
		{At: 548, Cap: endOf(320, 3, 0), Depth: 1},
		{At: 584, Cap: endOf(320, 6, 4), Depth: 1},
		{At: 84, Cap: origOf(impl.CapNote, 324, 0)},
		{At: 88, Cap: origOf(impl.CapFrame, 328, 2)},
		{At: 92, Cap: origOf(impl.CapThread, 352, 0)},
		{At: 580, Cap: copyOf(impl.CapReply, 352, 0), Depth: 1},
		{At: 96, Cap: origOf(impl.CapThread, 384, 0)},
		{At: 100, Cap: origOf(impl.CapThread, 416, 0)},
		{At: 104, Cap: origOf(impl.CapThread, 448, 0)},
	}
}

// toldIn writes into a state what it has of a thread that was told.
func toldIn(k *impl.Kern, thread int) {
	th := threadOf(k, thread)
	*th = impl.KernThread{At: thread, State: impl.KernRuns, Prio: th.Prio, Max: th.Max, Slice: th.Slice, Out: [3]uint32{impl.CodeGone, 0, 0}}
}

// noThreads takes threads out of a state.
func noThreads(k *impl.Kern, threads ...int) {
	k.Threads = slices.DeleteFunc(k.Threads, func(th impl.KernThread) bool { return slices.Contains(threads, th.At) })
}

// reapStates is the states that are written out.
func reapStates() []impl.Kern {
	return []impl.Kern{
		kernHouse(), kernFull(), kernHands(), kernYard(), kernNested(6), kernRegions(), kernSmall(), kernSpaces(), kernOneNode(3),
		kernQueues([7]int{1, 3, 2, 4, 3, 3, 1}, false), kernQueues([7]int{0, 1, 2, 1, 2, 1, 4}, true),
		{Bits: 9}, {Bits: 12, Ticks: 1000000}, kernDeep(12, 300), kernTight(12, 300, false),
	}
}

func slotAts(k impl.Kern) []int {
	var list []int
	for _, s := range k.Slots {
		list = append(list, s.At)
	}
	return list
}

// fewSlots is all slots of a state, or some of them, if there are many.
func fewSlots(k impl.Kern, most int) []int {
	all := slotAts(k)
	var list []int
	for i := 0; i < len(all); i += 1 + len(all)/most {
		list = append(list, all[i])
	}
	return list
}

// anyReap is a taking back by chance: from where, with the slot itself or not, and how many slots.
func anyReap(r *rand.Rand, k impl.Kern) (at int, self bool, n int) {
	at = oneOf(r, slotAts(k))
	if r.Intn(10) == 0 {
		at = oneOf(r, kernAsked(k))
	}
	return at, r.Intn(2) == 0, []int{0, 1, 1, 2, 2, r.Intn(9), 1 << 40, -1}[r.Intn(8)]
}
