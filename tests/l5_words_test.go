package tests

import (
	"cmp"
	"slices"

	"loop.example/donjon/impl"
)

// The document's words on the words of a state, written out anew.

// layWords is words that are put one by one; such as are not in memory are left out, as only states that are not ok have them.
type layWords []uint32

func (w layWords) put(at int, word int) {
	if at >= 0 && at < len(w) {
		w[at] = uint32(word)
	}
}

// beside is what stands ahead of a place of a list and behind it, or 0.
func beside(list []int, i int) (int, int) {
	ahead, behind := 0, 0
	if i > 0 {
		ahead = list[i-1]
	}
	if i+1 < len(list) {
		behind = list[i+1]
	}
	return ahead, behind
}

// putList puts the first and the last of a list from an address on, and what is beside each thread.
func (w layWords) putList(at int, list []int) {
	if len(list) == 0 {
		return
	}
	w.put(at, list[0])
	w.put(at+1, list[len(list)-1])
	for i, thread := range list {
		ahead, behind := beside(list, i)
		w.put(thread+16, behind)
		w.put(thread+17, ahead)
	}
}

func (w layWords) putSlots(list []impl.TreeSlot) {
	var ats []int
	for _, s := range list {
		ats = append(ats, s.At)
	}
	for i, s := range list {
		a, b := impl.CapPack(s.Cap)
		ahead, behind := beside(ats, i)
		w.put(s.At, int(a))
		w.put(s.At+1, int(b))
		w.put(s.At+2, ahead+65536*s.Depth)
		w.put(s.At+3, behind)
	}
	if len(ats) > 0 {
		w.put(2, ats[0])
	}
}

func (w layWords) putThread(t impl.KernThread) {
	words := []int{
		12: t.State, 13: t.Prio, 14: t.Max, 15: t.Slice,
		18: t.On, 19: t.Badge, 20: int(t.Msg), 21: t.Flags, 22: int(t.Xfer),
		23: int(t.Out[0]), 24: int(t.Out[1]), 25: int(t.Out[2]), 26: t.Pend, 27: int(t.PendRef),
	}
	for i, word := range words {
		if i >= 12 && i != 16 && i != 17 {
			w.put(t.At+i, word)
		}
	}
}

func (w layWords) putObjects(k impl.Kern) {
	for _, t := range k.Threads {
		w.putThread(t)
	}
	for _, e := range k.Ends {
		w.put(e.At, e.Kind)
		w.putList(e.At+1, e.List)
	}
	for _, n := range k.Notes {
		switch {
		case len(n.List) > 0:
			w.put(n.At, 1)
		case n.Active:
			w.put(n.At, 2)
		}
		w.put(n.At+1, n.Word)
		w.putList(n.At+2, n.List)
	}
	for _, f := range k.Frames {
		for i, word := range f.Data {
			w.put(f.At+i, int(word))
		}
	}
}

// wordsOfKern is the words of a state with 9 to 12 bits; just of one that is ok do they mean anything.
func wordsOfKern(k impl.Kern) []uint32 {
	w := make(layWords, 1<<k.Bits)
	w.put(0, k.Bits)
	w.put(1, k.Ticks)
	w.putSlots(k.Slots)
	w.putObjects(k)
	for prio, list := range k.Ready {
		w.putList(8+2*prio, list)
	}
	return w
}

// wantLayMake is none, if the state is not ok.
func wantLayMake(k impl.Kern) []uint32 {
	if !wantKernOk(k) {
		return nil
	}
	return wordsOfKern(k)
}

// guess is the one state that can have these words, without a look at whether it is one: just the links that lead on are followed, each list up to an end or up to more than there can be.
type guess struct {
	words []uint32
	k     impl.Kern
}

// word is 0 beyond memory.
func (g *guess) word(at int) int {
	if at < 0 || at >= len(g.words) {
		return 0
	}
	return int(g.words[at])
}

func (g *guess) list(at int) []int {
	var list []int
	for thread := g.word(at); thread != 0 && len(list) < 200; thread = g.word(thread + 16) {
		list = append(list, thread)
	}
	return list
}

func (g *guess) slots() {
	for at := g.word(2); at != 0 && len(g.k.Slots) < 400; at = g.word(at + 3) {
		a, b := uint32(g.word(at)), uint32(g.word(at+1))
		c, _ := impl.CapUnpack(a, b)
		g.k.Slots = append(g.k.Slots, impl.TreeSlot{At: at, Cap: c, Depth: g.word(at+2) / 65536})
	}
}

func (g *guess) thread(at int) impl.KernThread {
	n := func(i int) int { return g.word(at + i) }
	u := func(i int) uint32 { return uint32(g.word(at + i)) }
	return impl.KernThread{
		At: at, State: n(12), Prio: n(13), Max: n(14), Slice: n(15), On: n(18), Badge: n(19), Msg: u(20), Flags: n(21), Xfer: u(22),
		Out: [3]uint32{u(23), u(24), u(25)}, Pend: n(26), PendRef: u(27),
	}
}

func (g *guess) objects() {
	for _, s := range g.k.Slots {
		at := s.Cap.Addr
		switch {
		case !s.Cap.Orig:
		case s.Cap.Kind == impl.CapThread:
			g.k.Threads = append(g.k.Threads, g.thread(at))
		case s.Cap.Kind == impl.CapEnd:
			g.k.Ends = append(g.k.Ends, impl.KernEnd{At: at, Kind: g.word(at), List: g.list(at + 1)})
		case s.Cap.Kind == impl.CapNote:
			g.k.Notes = append(g.k.Notes, impl.KernNote{At: at, Active: g.word(at) == 2, Word: g.word(at + 1), List: g.list(at + 2)})
		case s.Cap.Kind == impl.CapFrame:
			f := impl.KernFrame{At: at}
			for i := range 1 << s.Cap.Bits {
				f.Data = append(f.Data, uint32(g.word(at+i)))
			}
			g.k.Frames = append(g.k.Frames, f)
		}
	}
	slices.SortFunc(g.k.Threads, func(a, b impl.KernThread) int { return cmp.Compare(a.At, b.At) })
	slices.SortFunc(g.k.Ends, func(a, b impl.KernEnd) int { return cmp.Compare(a.At, b.At) })
	slices.SortFunc(g.k.Notes, func(a, b impl.KernNote) int { return cmp.Compare(a.At, b.At) })
	slices.SortFunc(g.k.Frames, func(a, b impl.KernFrame) int { return cmp.Compare(a.At, b.At) })
}

// wantLayRead makes the words of the guess and holds them against those that are given.
func wantLayRead(words []uint32) (impl.Kern, bool) {
	if !slices.Contains([]int{512, 1024, 2048, 4096}, len(words)) || words[0] < 9 || words[0] > 12 || len(words) != 1<<words[0] {
		return impl.Kern{}, false
	}
	g := &guess{words: words}
	g.k.Bits, g.k.Ticks = g.word(0), g.word(1)
	g.slots()
	g.objects()
	for prio := range g.k.Ready {
		g.k.Ready[prio] = g.list(8 + 2*prio)
	}
	if !slices.Equal(wordsOfKern(g.k), words) || !wantKernOk(g.k) {
		return impl.Kern{}, false
	}
	return g.k, true
}

// States for chapter 5.

// kernQueues is seven lists of threads: of Ready of the priorities 0, 3 and 7, of an endpoint that sends, of one that waits, and of two notifications, each with the given threads in the given order, and one thread that stands in none. There is an endpoint and a notification with nobody too.
func kernQueues(sizes [7]int, turn bool) impl.Kern {
	k := impl.Kern{Bits: 12, Ticks: 3}
	at := 64
	put := func(c impl.Cap) {
		k.Slots = append(k.Slots, impl.TreeSlot{At: at, Cap: c})
		at += 4
		if at == 128 {
			at = 512
		}
	}
	// A node for the slots that the kernel's own have no room for.
	put(origOf(impl.CapNode, 512, 5))
	k.Ends = []impl.KernEnd{{At: 128}, {At: 132}, {At: 136}}
	k.Notes = []impl.KernNote{{At: 140}, {At: 144}, {At: 148, Active: true, Word: 65535}}
	for _, e := range k.Ends {
		put(origOf(impl.CapEnd, e.At, 0))
	}
	for _, n := range k.Notes {
		put(origOf(impl.CapNote, n.At, 0))
	}
	states := [7]impl.KernThread{
		{State: impl.KernRuns, Prio: 0}, {State: impl.KernRuns, Prio: 3}, {State: impl.KernRuns, Prio: 7},
		{State: impl.KernSends, On: 128, Badge: 1, Msg: 2, Flags: 3, Xfer: 4}, {State: impl.KernWaits, On: 132, Xfer: 5},
		{State: impl.KernListens, On: 140}, {State: impl.KernListens, On: 144},
	}
	k.Threads = []impl.KernThread{{At: 1024, Slice: 1}}
	put(origOf(impl.CapThread, 1024, 0))
	var lists [7][]int
	for i, size := range sizes {
		for range size {
			th := states[i]
			th.At, th.Max, th.Slice = 1024+32*len(k.Threads), i%8, 1+i%4
			k.Threads = append(k.Threads, th)
			put(origOf(impl.CapThread, th.At, 0))
			lists[i] = append(lists[i], th.At)
		}
		if turn {
			slices.Reverse(lists[i])
		}
	}
	k.Ready[0], k.Ready[3], k.Ready[7] = lists[0], lists[1], lists[2]
	k.Ends[0].List, k.Ends[1].List = lists[3], lists[4]
	k.Ends[0].Kind, k.Ends[1].Kind = min(len(lists[3]), 1), min(len(lists[4]), 1)*2
	k.Notes[0].List, k.Notes[1].List = lists[5], lists[6]
	return k
}

// kernSmall is the smallest memory, with a list of three in Ready, at an endpoint and at a notification, and slots that came of slots.
func kernSmall() impl.Kern {
	k := impl.Kern{Bits: 9, Ticks: 1000000}
	for i := range 9 {
		k.Slots = append(k.Slots, impl.TreeSlot{At: 64 + 4*i, Cap: origOf(impl.CapThread, 128+32*i, 0)})
		th := impl.KernThread{At: 128 + 32*i, State: impl.KernRuns, Prio: 5, Slice: 2}
		switch i % 3 {
		case 1:
			th.State, th.On, th.Xfer = impl.KernWaits, 480, 9
		case 2:
			th.State, th.On = impl.KernListens, 484
		}
		k.Threads = append(k.Threads, th)
	}
	k.Slots = append(k.Slots,
		impl.TreeSlot{At: 120, Cap: origOf(impl.CapEnd, 480, 0)},
		impl.TreeSlot{At: 136, Cap: endOf(480, 7, 3), Depth: 1},
		impl.TreeSlot{At: 116, Cap: endOf(480, 5, 0), Depth: 1},
		impl.TreeSlot{At: 168, Cap: endOf(480, 4, 65535), Depth: 2},
		impl.TreeSlot{At: 124, Cap: origOf(impl.CapNote, 484, 0)},
		impl.TreeSlot{At: 112, Cap: origOf(impl.CapFrame, 496, 4)})
	k.Ends = []impl.KernEnd{{At: 480, Kind: 2, List: []int{352, 160, 256}}}
	k.Notes = []impl.KernNote{{At: 484, List: []int{192, 384, 288}}}
	k.Frames = []impl.KernFrame{{At: 496, Data: []uint32{1, 0, 2, 0, 3, 0, 4, 0, 5, 0, 6, 0, 7, 0, 8, 1<<32 - 1}}}
	k.Ready[5] = []int{224, 320, 128}
	return k
}
