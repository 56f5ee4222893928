package tests

import (
	"fmt"
	"math"
	"math/rand"
	"reflect"
	"slices"
	"testing"

	"loop.example/donjon/impl"
)

func TestKernConstants(t *testing.T) {
	got := []int{
		impl.KernIdle, impl.KernRuns, impl.KernSends, impl.KernWaits, impl.KernCalls, impl.KernListens,
		impl.KernRevokes, impl.KernDeletes, impl.KernCall, impl.KernGrant,
		impl.KernMaxTicks, impl.KernMaxPrio, impl.KernMaxSlice, impl.KernRootEnd,
	}
	want := []int{0, 1, 2, 3, 4, 5, 1, 2, 1, 2, 1000000, 7, 4, 128}
	if !slices.Equal(got, want) {
		t.Error(got, want)
	}
}

// kernAsked is addresses to ask a state for: all that stand in it, some beside these, and far ones.
func kernAsked(k impl.Kern) []int {
	ats := []int{0, 60, 64, 124, 128, 4092, 4096}
	ats = append(ats, farInts...)
	for _, s := range k.Slots {
		ats = append(ats, s.At, s.At+1, s.At+4, s.Cap.Addr)
	}
	for _, th := range k.Threads {
		ats = append(ats, th.At, th.At-1)
	}
	for _, e := range k.Ends {
		ats = append(ats, e.At)
	}
	return ats
}

// checkKernAt holds the three calls that take an address against the document's words.
func checkKernAt(t *testing.T, k impl.Kern, ok bool, at int) {
	t.Helper()
	wantCap, wantThread, wantNext := impl.Cap{}, impl.KernThread{}, -1
	thereCap, thereThread := false, false
	if ok {
		for _, s := range k.Slots {
			if s.At == at {
				wantCap, thereCap = s.Cap, true
			}
		}
		for _, th := range k.Threads {
			if th.At == at {
				wantThread, thereThread = th, true
			}
		}
		wantNext = wantKernNext(k, at)
	}
	if c, there := impl.KernCap(k, at); c != wantCap || there != thereCap {
		t.Fatalf("KernCap at %d: %v %v, want %v %v\n%+v", at, c, there, wantCap, thereCap, k)
	}
	if th, there := impl.KernThreadAt(k, at); th != wantThread || there != thereThread {
		t.Fatalf("KernThreadAt %d: %v %v, want %v %v\n%+v", at, th, there, wantThread, thereThread, k)
	}
	if next := impl.KernNext(k, at); next != wantNext {
		t.Fatalf("KernNext at %d: %d, want %d\n%+v", at, next, wantNext, k)
	}
}

// checkKernOk holds KernOk and KernCur against the document's words, and answers whether the state is ok.
func checkKernOk(t *testing.T, k impl.Kern) bool {
	t.Helper()
	ok := wantKernOk(k)
	if got := impl.KernOk(k); got != ok {
		t.Fatalf("KernOk: %v, want %v\n%+v", got, ok, k)
	}
	cur := 0
	if ok {
		cur = wantKernCur(k)
	}
	if got := impl.KernCur(k); got != cur {
		t.Fatalf("KernCur: %d, want %d\n%+v", got, cur, k)
	}
	return ok
}

// checkKern holds all calls on one state against the document's words.
func checkKern(t *testing.T, k impl.Kern) bool {
	t.Helper()
	ok := checkKernOk(t, k)
	for _, at := range kernAsked(k) {
		checkKernAt(t, k, ok, at)
	}
	return ok
}

// checkPromise6 asks the promise by itself: of the slot that goes next nothing came, and nothing is in it.
func checkPromise6(t *testing.T, k impl.Kern) {
	t.Helper()
	for _, s := range k.Slots {
		next := impl.KernNext(k, s.At)
		i := slices.IndexFunc(k.Slots, func(o impl.TreeSlot) bool { return o.At == next })
		if i < 0 {
			t.Fatalf("KernNext of %d is %d, where no slot is\n%+v", s.At, next, k)
		}
		if !canGo(k.Slots, i) {
			t.Fatalf("KernNext of %d is %d, which cannot go\n%+v", s.At, next, k)
		}
	}
}

func TestKernEmpty(t *testing.T) {
	for bits := -1; bits <= 14; bits++ {
		if got := checkKern(t, impl.Kern{Bits: bits}); got != (bits >= 9 && bits <= 12) {
			t.Error(bits, got)
		}
	}
	empty := impl.Kern{Bits: 9, Slots: []impl.TreeSlot{}, Threads: []impl.KernThread{}, Ends: []impl.KernEnd{}, Notes: []impl.KernNote{}, Frames: []impl.KernFrame{}}
	for prio := range empty.Ready {
		empty.Ready[prio] = []int{}
	}
	if !checkKern(t, empty) || !impl.KernSame(empty, impl.Kern{Bits: 9}) || !impl.KernSame(impl.Kern{Bits: 9}, empty) {
		t.Error("the empty state")
	}
	if !impl.KernSame(impl.Kern{}, impl.Kern{}) {
		t.Error("what is no state is the same as itself")
	}
}

func TestKernWrittenOut(t *testing.T) {
	k := kernFull()
	if !checkKern(t, k) {
		t.Fatal("the full state")
	}
	if impl.KernCur(k) != 384 {
		t.Error("cur", impl.KernCur(k))
	}
	if c, ok := impl.KernCap(k, 140); !ok || c != endOf(352, 1, 7) {
		t.Error("cap", c, ok)
	}
	if th, ok := impl.KernThreadAt(k, 192); !ok || th != k.Threads[1] {
		t.Error("thread", th, ok)
	}
	// Of the first node the leaf is the copy in the thread's space; what came of the region leads, over the first of its node's slots, to the copy there.
	next := map[int]int{64: 160, 160: 160, 128: 128, 68: 132, 72: 72, 80: 164, 92: 140, 136: 140, 112: 512, 152: 512, 516: 116, 156: 156, 600: -1, 192: -1, -1: -1}
	for at, want := range next {
		if got := impl.KernNext(k, at); got != want {
			t.Errorf("next of %d: %d, want %d", at, got, want)
		}
	}
}

// kernCase is a state that is ok, or not, by one change of kernFull.
type kernCase struct {
	name   string
	ok     bool
	change func(k *impl.Kern)
}

func checkKernCases(t *testing.T, cases []kernCase) {
	t.Helper()
	for _, c := range cases {
		k := kernFull()
		c.change(&k)
		if wantKernOk(k) != c.ok {
			t.Errorf("%s: the test's own answer is not %v", c.name, c.ok)
		}
		if got := impl.KernOk(k); got != c.ok {
			t.Errorf("%s: %v", c.name, got)
		}
		checkKernOk(t, k)
		for _, at := range []int{0, 64, 140, 160, 192, 512, 600} {
			checkKernAt(t, k, c.ok, at)
		}
		if c.ok {
			checkPromise6(t, k)
		}
	}
}

func TestKernBounds(t *testing.T) {
	var cases []kernCase
	for _, bits := range []int{math.MinInt, -1, 0, 8, 9, 10, 11, 12, 13, 64, math.MaxInt} {
		// With 9 bits the regions end beyond memory.
		cases = append(cases, kernCase{fmt.Sprint("bits ", bits), bits >= 10 && bits <= 12, func(k *impl.Kern) { k.Bits = bits }})
	}
	for _, ticks := range []int{math.MinInt, -1, 0, 1, 1000000, 1000001, math.MaxInt} {
		cases = append(cases, kernCase{fmt.Sprint("ticks ", ticks), ticks >= 0 && ticks <= 1000000, func(k *impl.Kern) { k.Ticks = ticks }})
	}
	cases = append(cases, []kernCase{
		{"as it is", true, func(k *impl.Kern) {}},
		{"a slot twice", false, func(k *impl.Kern) { slotOf(k, 140).At = 136 }},
		{"a slot too deep", false, func(k *impl.Kern) { slotOf(k, 140).Depth = 3 }},
		{"a slot with depth -1", false, func(k *impl.Kern) { slotOf(k, 92).Depth = -1 }},
		{"a slot ahead of all", false, func(k *impl.Kern) { slotOf(k, 64).At = 60 }},
		{"a slot between two", false, func(k *impl.Kern) { slotOf(k, 140).At = 142 }},
		{"a capability that is none", false, func(k *impl.Kern) { slotOf(k, 140).Cap.Kind = 0 }},
		{"a right that is none", false, func(k *impl.Kern) { slotOf(k, 140).Cap.Rights = 8 }},
	}...)
	checkKernCases(t, cases)
}

func TestKernObjects(t *testing.T) {
	checkKernCases(t, []kernCase{
		{"a thread without its original", false, func(k *impl.Kern) { cutSlot(k, 88) }},
		{"an original without its thread", false, func(k *impl.Kern) { k.Threads = slices.Delete(k.Threads, 5, 6) }},
		{"neither", true, func(k *impl.Kern) { cutSlot(k, 88); k.Threads = slices.Delete(k.Threads, 5, 6) }},
		{"a thread too many at the end", false, func(k *impl.Kern) { k.Threads = append(k.Threads, impl.KernThread{At: 416, Slice: 4}) }},
		{"a thread that is an endpoint", false, func(k *impl.Kern) { k.Threads[5].At = 352 }},
		{"a thread elsewhere", false, func(k *impl.Kern) { k.Threads[5].At = 352 - 16 }},
		{"a thread twice", false, func(k *impl.Kern) { k.Threads = slices.Insert(k.Threads, 5, k.Threads[5]) }},
		{"a thread twice in place of another one", false, func(k *impl.Kern) { k.Threads[5] = k.Threads[4] }},
		{"threads that do not ascend", false, func(k *impl.Kern) { k.Threads[4], k.Threads[5] = k.Threads[5], k.Threads[4] }},
		{"an endpoint without its original", false, func(k *impl.Kern) { cutSlot(k, 156) }},
		{"an original without its endpoint", false, func(k *impl.Kern) { k.Ends = k.Ends[:2] }},
		{"neither endpoint", true, func(k *impl.Kern) { cutSlot(k, 156); k.Ends = k.Ends[:2] }},
		{"an endpoint twice", false, func(k *impl.Kern) { k.Ends = append(k.Ends, k.Ends[2]) }},
		{"an endpoint too many", false, func(k *impl.Kern) { k.Ends = append(k.Ends, impl.KernEnd{At: 524}) }},
		{"endpoints that do not ascend", false, func(k *impl.Kern) { k.Ends[1], k.Ends[2] = k.Ends[2], k.Ends[1] }},
		{"an endpoint that is a notification", false, func(k *impl.Kern) { k.Ends[2].At = 528 }},
		{"a notification without its original", false, func(k *impl.Kern) { cutSlot(k, 116) }},
		{"an original without its notification", false, func(k *impl.Kern) { k.Notes = k.Notes[:2] }},
		{"neither notification", true, func(k *impl.Kern) { cutSlot(k, 116); k.Notes = k.Notes[:2] }},
		{"a notification twice", false, func(k *impl.Kern) { k.Notes = append(k.Notes, k.Notes[2]) }},
		{"notifications that do not ascend", false, func(k *impl.Kern) { k.Notes[1], k.Notes[2] = k.Notes[2], k.Notes[1] }},
		{"a notification elsewhere", false, func(k *impl.Kern) { k.Notes[2].At = 524 }},
		{"a frame without its original", false, func(k *impl.Kern) { cutSlot(k, 120) }},
		{"an original without its frame", false, func(k *impl.Kern) { k.Frames = k.Frames[:1] }},
		{"neither frame", true, func(k *impl.Kern) { cutSlot(k, 120); k.Frames = k.Frames[:1] }},
		{"a frame twice", false, func(k *impl.Kern) { k.Frames = append(k.Frames, k.Frames[1]) }},
		{"frames that do not ascend", false, func(k *impl.Kern) { k.Frames[0], k.Frames[1] = k.Frames[1], k.Frames[0] }},
		{"a frame elsewhere", false, func(k *impl.Kern) { k.Frames[1].At = 536 }},
		{"a word too many", false, func(k *impl.Kern) { k.Frames[0].Data = append(k.Frames[0].Data, 0) }},
		{"a word too few", false, func(k *impl.Kern) { k.Frames[0].Data = k.Frames[0].Data[:3] }},
		{"no word", false, func(k *impl.Kern) { k.Frames[1].Data = nil }},
		{"a larger frame", false, func(k *impl.Kern) { slotOf(k, 120).Cap.Bits = 3 }},
		{"a smaller frame", false, func(k *impl.Kern) { slotOf(k, 120).Cap.Bits = 1 }},
		{"a smaller frame with its words", true, func(k *impl.Kern) {
			slotOf(k, 120).Cap.Bits = 1
			k.Frames[1].Data = []uint32{1, 2}
		}},
		{"an original that is one no more", false, func(k *impl.Kern) { slotOf(k, 88).Cap.Orig = false }},
		{"a copy that is an original", false, func(k *impl.Kern) { slotOf(k, 132).Cap.Orig = true }},
		{"two originals of one thread", false, func(k *impl.Kern) {
			cutSlot(k, 156)
			k.Ends = k.Ends[:2]
			putSlot(k, 0, 156, origOf(impl.CapThread, 320, 0))
		}},
		{"two originals and two threads", false, func(k *impl.Kern) {
			cutSlot(k, 156)
			k.Ends = k.Ends[:2]
			putSlot(k, 0, 156, origOf(impl.CapThread, 320, 0))
			k.Threads = slices.Insert(k.Threads, 5, k.Threads[5])
		}},
	})
}

// kernField is a field of a thread with numbers, and which of these it may have.
type kernField struct {
	name  string
	least int
	most  int
	set   func(th *impl.KernThread, n int)
}

func TestKernThreadFields(t *testing.T) {
	fields := []kernField{
		{"Max", 0, 7, func(th *impl.KernThread, n int) { th.Max = n }},
		{"Slice", 1, 4, func(th *impl.KernThread, n int) { th.Slice = n }},
		{"Badge", 0, 65535, func(th *impl.KernThread, n int) { th.Badge = n }},
		{"Flags", 0, 3, func(th *impl.KernThread, n int) { th.Flags = n }},
		{"Prio", 0, 7, func(th *impl.KernThread, n int) { th.Prio = n }},
	}
	var cases []kernCase
	for _, f := range fields {
		for _, n := range []int{math.MinInt, f.least - 1, f.least, f.least + 1, f.most - 1, f.most, f.most + 1, math.MaxInt} {
			// The thread that sends may have any of these.
			cases = append(cases, kernCase{fmt.Sprint(f.name, " ", n), n >= f.least && n <= f.most, func(k *impl.Kern) { f.set(threadOf(k, 192), n) }})
		}
	}
	for _, n := range []int{math.MinInt, -1, 0, 1, 2, 3, math.MaxInt} {
		cases = append(cases,
			kernCase{fmt.Sprint("Pend ", n), n == 1 || n == 2, func(k *impl.Kern) { threadOf(k, 160).Pend = n }},
			kernCase{fmt.Sprint("Pend without a ref ", n), n >= 0 && n <= 2, func(k *impl.Kern) { threadOf(k, 160).Pend, threadOf(k, 160).PendRef = n, 0 }})
	}
	for _, n := range []int{math.MinInt, -1, 0, 1, 2, 3, 4, 5, 6, math.MaxInt} {
		cases = append(cases, kernCase{fmt.Sprint("State ", n), n == 0, func(k *impl.Kern) { threadOf(k, 320).State = n }})
	}
	for prio := -1; prio <= 8; prio++ {
		cases = append(cases, kernCase{fmt.Sprint("ready with another Prio ", prio), prio == 3, func(k *impl.Kern) { threadOf(k, 160).Prio = prio }})
		if prio >= 0 && prio <= 7 {
			cases = append(cases, kernCase{fmt.Sprint("in its place ", prio), true, func(k *impl.Kern) {
				threadOf(k, 160).Prio = prio
				k.Ready[3] = []int{384}
				k.Ready[prio] = append(k.Ready[prio], 160)
			}})
		}
	}
	checkKernCases(t, cases)
}

// Which fields may be set in which state.
func TestKernFieldsByState(t *testing.T) {
	ats := map[int]int{impl.KernIdle: 320, impl.KernRuns: 384, impl.KernSends: 192, impl.KernWaits: 224, impl.KernCalls: 256, impl.KernListens: 288}
	var cases []kernCase
	for state, at := range ats {
		sends, waits, runs := state == impl.KernSends, state == impl.KernWaits, state == impl.KernRuns
		name := fmt.Sprint("state ", state, " ")
		cases = append(cases, []kernCase{
			{name + "Badge", sends, func(k *impl.Kern) { threadOf(k, at).Badge = 1 }},
			{name + "Msg", sends, func(k *impl.Kern) { threadOf(k, at).Msg = 1 }},
			{name + "a great Msg", sends, func(k *impl.Kern) { threadOf(k, at).Msg = math.MaxUint32 }},
			{name + "Flags", sends, func(k *impl.Kern) { threadOf(k, at).Flags = 1 }},
			{name + "Xfer", sends || waits, func(k *impl.Kern) { threadOf(k, at).Xfer = 1 }},
			{name + "a great Xfer", sends || waits, func(k *impl.Kern) { threadOf(k, at).Xfer = math.MaxUint32 }},
			{name + "Pend", runs, func(k *impl.Kern) { threadOf(k, at).Pend = 1 }},
			{name + "Pend and PendRef", runs, func(k *impl.Kern) { threadOf(k, at).Pend, threadOf(k, at).PendRef = 2, math.MaxUint32 }},
			{name + "PendRef", false, func(k *impl.Kern) { threadOf(k, at).PendRef = 1 }},
			{name + "Out", true, func(k *impl.Kern) { threadOf(k, at).Out = [3]uint32{math.MaxUint32, math.MaxUint32, 1} }},
			{name + "Max and Slice", true, func(k *impl.Kern) { threadOf(k, at).Max, threadOf(k, at).Slice = 7, 1 }},
			{name + "all of a message 0", true, func(k *impl.Kern) {
				th := threadOf(k, at)
				th.Badge, th.Msg, th.Flags, th.Xfer = 0, 0, 0, 0
			}},
		}...)
		for _, on := range []int{0, 1, 128, 160, 320, 352, 356, 360, 364, 520, 528, 532, -1, math.MaxInt} {
			own := map[int]int{impl.KernSends: 352, impl.KernWaits: 356, impl.KernListens: 360}[state]
			cases = append(cases, kernCase{fmt.Sprint(name, "On ", on), on == own, func(k *impl.Kern) { threadOf(k, at).On = on }})
		}
		for other := -1; other <= 6; other++ {
			cases = append(cases, kernCase{fmt.Sprint(name, "is ", other), other == state, func(k *impl.Kern) { threadOf(k, at).State = other }})
		}
	}
	checkKernCases(t, cases)
}

func TestKernReady(t *testing.T) {
	checkKernCases(t, []kernCase{
		{"another order", true, func(k *impl.Kern) { k.Ready[3] = []int{160, 384} }},
		{"twice", false, func(k *impl.Kern) { k.Ready[3] = []int{384, 160, 160} }},
		{"twice in place of another one", false, func(k *impl.Kern) { k.Ready[3] = []int{160, 160} }},
		{"in two priorities", false, func(k *impl.Kern) { k.Ready[4] = []int{160} }},
		{"in a priority below", false, func(k *impl.Kern) { k.Ready[3] = []int{384}; k.Ready[2] = []int{160} }},
		{"in a priority above", false, func(k *impl.Kern) { k.Ready[3] = []int{384}; k.Ready[4] = []int{160} }},
		{"nowhere", false, func(k *impl.Kern) { k.Ready[3] = []int{384} }},
		{"nobody", false, func(k *impl.Kern) { k.Ready[3] = nil }},
		{"one that is idle", false, func(k *impl.Kern) { k.Ready[0] = []int{320} }},
		{"one that is idle in place of another one", false, func(k *impl.Kern) { k.Ready[3] = []int{384}; k.Ready[0] = []int{320} }},
		{"one that sends", false, func(k *impl.Kern) { k.Ready[2] = []int{192} }},
		{"one that waits", false, func(k *impl.Kern) { k.Ready[7] = []int{224} }},
		{"one that calls", false, func(k *impl.Kern) { k.Ready[0] = []int{256} }},
		{"one that listens", false, func(k *impl.Kern) { k.Ready[1] = []int{288} }},
		{"no thread", false, func(k *impl.Kern) { k.Ready[3] = []int{384, 160, 352} }},
		{"0", false, func(k *impl.Kern) { k.Ready[3] = []int{384, 160, 0} }},
		{"0 alone", false, func(k *impl.Kern) { k.Ready[7] = []int{0} }},
		{"one that became idle", true, func(k *impl.Kern) {
			th := threadOf(k, 160)
			th.State, th.Pend, th.PendRef = impl.KernIdle, 0, 0
			k.Ready[3] = []int{384}
		}},
		{"one that became ready", true, func(k *impl.Kern) { threadOf(k, 320).State = impl.KernRuns; k.Ready[0] = []int{320} }},
		{"one that became ready, in the wrong place", false, func(k *impl.Kern) { threadOf(k, 320).State = impl.KernRuns; k.Ready[1] = []int{320} }},
	})
	k := kernFull()
	threadOf(&k, 320).State, threadOf(&k, 320).Prio = impl.KernRuns, 6
	k.Ready[6] = []int{320}
	if !checkKern(t, k) || impl.KernCur(k) != 320 {
		t.Error("a greater priority runs", impl.KernCur(k))
	}
}

// kernReplyIn is a thread that calls, at the beginning of the region that it was made of, with a reply that came of the slot at an address: 68 holds the region, 72 the thread.
func kernReplyIn(up int) impl.Kern {
	k := impl.Kern{Bits: 9, Slots: []impl.TreeSlot{
		{At: 64, Cap: origOf(impl.CapThread, 192, 0)},
		{At: 68, Cap: regionOf(128, 5, 32)},
		{At: 72, Cap: origOf(impl.CapThread, 128, 0), Depth: 1},
	}, Threads: []impl.KernThread{{At: 128, State: impl.KernCalls, Slice: 4}, {At: 192, Slice: 4}}}
	putSlot(&k, up, 196, copyOf(impl.CapReply, 128, 0))
	return k
}

func TestKernReplies(t *testing.T) {
	idle := func(k *impl.Kern) { threadOf(k, 256).State = impl.KernIdle }
	checkKernCases(t, []kernCase{
		{"none for one that calls", false, func(k *impl.Kern) { cutSlot(k, 164) }},
		{"none for one that calls no more", true, func(k *impl.Kern) { cutSlot(k, 164); idle(k) }},
		{"one for one that is idle", false, idle},
		{"two for one that calls", false, func(k *impl.Kern) { putSlot(k, 80, 196, copyOf(impl.CapReply, 256, 0)) }},
		{"two for one that is idle", false, func(k *impl.Kern) { putSlot(k, 80, 196, copyOf(impl.CapReply, 256, 0)); idle(k) }},
		{"one more for one that is idle", false, func(k *impl.Kern) { putSlot(k, 88, 196, copyOf(impl.CapReply, 320, 0)) }},
		{"one more that calls", true, func(k *impl.Kern) {
			putSlot(k, 88, 196, copyOf(impl.CapReply, 320, 0))
			threadOf(k, 320).State = impl.KernCalls
		}},
		{"one for one that runs", false, func(k *impl.Kern) { putSlot(k, 124, 196, copyOf(impl.CapReply, 384, 0)) }},
		{"one for one that sends", false, func(k *impl.Kern) { putSlot(k, 72, 228, copyOf(impl.CapReply, 192, 0)) }},
		{"one that it holds itself", true, func(k *impl.Kern) { slotOf(k, 164).At = 260 }},
		{"in a node", false, func(k *impl.Kern) { cutSlot(k, 144); slotOf(k, 164).At = 144 }},
		{"in a slot of the kernel", false, func(k *impl.Kern) { cutSlot(k, 88); k.Threads = slices.Delete(k.Threads, 5, 6); slotOf(k, 164).At = 88 }},
		{"in a space", false, func(k *impl.Kern) { slotOf(k, 164).At = 192 }},
		{"in a handler", false, func(k *impl.Kern) { slotOf(k, 164).At = 200 }},
		{"in another caller", true, func(k *impl.Kern) { slotOf(k, 164).At = 196 }},
		{"that came of another thread", false, func(k *impl.Kern) { cutSlot(k, 164); putSlot(k, 84, 164, copyOf(impl.CapReply, 256, 0)) }},
		{"that came of a copy", false, func(k *impl.Kern) {
			cutSlot(k, 164)
			cutSlot(k, 148)
			putSlot(k, 80, 148, copyOf(impl.CapThread, 256, 0))
			putSlot(k, 148, 164, copyOf(impl.CapReply, 256, 0))
		}},
		{"that came of nothing", false, func(k *impl.Kern) { cutSlot(k, 164); putSlot(k, 0, 164, copyOf(impl.CapReply, 256, 0)) }},
		{"that came of a reply", false, func(k *impl.Kern) { putSlot(k, 164, 196, copyOf(impl.CapReply, 256, 0)) }},
		{"to no thread", false, func(k *impl.Kern) { slotOf(k, 164).Cap.Addr = 416 }},
		{"that came of a thread made of a region", true, func(k *impl.Kern) { *k = kernReplyIn(72) }},
		{"that came of the region of its thread", false, func(k *impl.Kern) { *k = kernReplyIn(68) }},
	})
}

func TestKernEnds(t *testing.T) {
	both := func(k *impl.Kern) {
		th := threadOf(k, 320)
		th.State, th.On = impl.KernSends, 352
	}
	checkKernCases(t, []kernCase{
		{"Kind 0 with somebody", false, func(k *impl.Kern) { k.Ends[0].Kind = 0 }},
		{"Kind 1 with nobody", false, func(k *impl.Kern) { k.Ends[2].Kind = 1 }},
		{"Kind 2 with nobody", false, func(k *impl.Kern) { k.Ends[2].Kind = 2 }},
		{"Kind 3 with nobody", false, func(k *impl.Kern) { k.Ends[2].Kind = 3 }},
		{"Kind -1 with nobody", false, func(k *impl.Kern) { k.Ends[2].Kind = -1 }},
		{"Kind 3 with somebody", false, func(k *impl.Kern) { k.Ends[0].Kind = 3 }},
		{"Kind -1 with somebody", false, func(k *impl.Kern) { k.Ends[0].Kind = -1 }},
		{"who sends at Kind 2", false, func(k *impl.Kern) { k.Ends[0].Kind = 2 }},
		{"who waits at Kind 1", false, func(k *impl.Kern) { k.Ends[1].Kind = 1 }},
		{"who sends waits", false, func(k *impl.Kern) {
			*threadOf(k, 192) = impl.KernThread{At: 192, State: impl.KernWaits, Slice: 1, On: 352}
		}},
		{"who sends waits at Kind 2", true, func(k *impl.Kern) {
			*threadOf(k, 192) = impl.KernThread{At: 192, State: impl.KernWaits, Slice: 1, On: 352}
			k.Ends[0].Kind = 2
		}},
		{"in the list of another one", false, func(k *impl.Kern) {
			k.Ends[0] = impl.KernEnd{At: 352}
			k.Ends[2] = impl.KernEnd{At: 520, Kind: 1, List: []int{192}}
		}},
		{"at another one", true, func(k *impl.Kern) {
			k.Ends[0] = impl.KernEnd{At: 352}
			k.Ends[2] = impl.KernEnd{At: 520, Kind: 1, List: []int{192}}
			threadOf(k, 192).On = 520
		}},
		{"exchanged", false, func(k *impl.Kern) { k.Ends[0].List, k.Ends[1].List = []int{224}, []int{192} }},
		{"in both lists", false, func(k *impl.Kern) { k.Ends[1].List = []int{224, 192} }},
		{"in a list twice", false, func(k *impl.Kern) { k.Ends[0].List = []int{192, 192} }},
		{"in no list", false, func(k *impl.Kern) { k.Ends[0] = impl.KernEnd{At: 352} }},
		{"two that send", true, func(k *impl.Kern) { both(k); k.Ends[0].List = []int{192, 320} }},
		{"two that send, in another order", true, func(k *impl.Kern) { both(k); k.Ends[0].List = []int{320, 192} }},
		{"two that send, one in the list", false, both},
		{"one that is idle", false, func(k *impl.Kern) { k.Ends[0].List = []int{192, 320} }},
		{"one that is idle, alone", false, func(k *impl.Kern) { k.Ends[2] = impl.KernEnd{At: 520, Kind: 1, List: []int{320}} }},
		{"one that runs", false, func(k *impl.Kern) { k.Ends[0].List = []int{192, 160} }},
		{"one that calls", false, func(k *impl.Kern) { k.Ends[1].List = []int{224, 256} }},
		{"one that listens", false, func(k *impl.Kern) { k.Ends[1].List = []int{224, 288} }},
		{"no thread", false, func(k *impl.Kern) { k.Ends[0].List = []int{192, 196} }},
		{"0", false, func(k *impl.Kern) { k.Ends[0].List = []int{0, 192} }},
	})
}

func TestKernNotes(t *testing.T) {
	more := func(k *impl.Kern) { th := threadOf(k, 320); th.State, th.On = impl.KernListens, 360 }
	cases := []kernCase{
		{"Active with somebody", false, func(k *impl.Kern) { k.Notes[0].Active = true }},
		{"Active with somebody and a word", false, func(k *impl.Kern) { k.Notes[0].Active, k.Notes[0].Word = true, 3 }},
		{"not Active, with a word", false, func(k *impl.Kern) { k.Notes[2].Word = 1 }},
		{"not Active, with somebody and a word", false, func(k *impl.Kern) { k.Notes[0].Word = 1 }},
		{"not Active any more, with a word", false, func(k *impl.Kern) { k.Notes[1].Active = false }},
		{"not Active any more", true, func(k *impl.Kern) { k.Notes[1].Active, k.Notes[1].Word = false, 0 }},
		{"Active", true, func(k *impl.Kern) { k.Notes[2].Active = true }},
		{"two that listen", true, func(k *impl.Kern) { more(k); k.Notes[0].List = []int{320, 288} }},
		{"two that listen, one in the list", false, more},
		{"in a list twice", false, func(k *impl.Kern) { k.Notes[0].List = []int{288, 288} }},
		{"in no list", false, func(k *impl.Kern) { k.Notes[0].List = nil }},
		{"in the list of another one", false, func(k *impl.Kern) { k.Notes[0].List, k.Notes[2].List = nil, []int{288} }},
		{"in both lists", false, func(k *impl.Kern) { k.Notes[2].List = []int{288} }},
		{"at another one", true, func(k *impl.Kern) {
			k.Notes[0].List, k.Notes[2].List = nil, []int{288}
			threadOf(k, 288).On = 528
		}},
		{"at one that is Active", false, func(k *impl.Kern) {
			k.Notes[0].List, k.Notes[1].List = nil, []int{288}
			threadOf(k, 288).On = 364
		}},
		{"one that is idle", false, func(k *impl.Kern) { k.Notes[0].List = []int{288, 320} }},
		{"one that is idle, alone", false, func(k *impl.Kern) { k.Notes[2].List = []int{320} }},
		{"one that sends", false, func(k *impl.Kern) { k.Notes[2].List = []int{192} }},
		{"one that runs", false, func(k *impl.Kern) { k.Notes[0].List = []int{384, 288} }},
		{"no thread", false, func(k *impl.Kern) { k.Notes[0].List = []int{288, 1} }},
		{"who listens at an endpoint", false, func(k *impl.Kern) {
			k.Notes[0].List, k.Ends[2] = nil, impl.KernEnd{At: 520, Kind: 2, List: []int{288}}
			threadOf(k, 288).On = 520
		}},
		{"who waits at a notification", false, func(k *impl.Kern) {
			k.Ends[1] = impl.KernEnd{At: 356}
			k.Notes[2].List = []int{224}
			threadOf(k, 224).On = 528
		}},
	}
	for _, word := range []int{math.MinInt, -1, 0, 1, 65534, 65535, 65536, math.MaxInt} {
		cases = append(cases, kernCase{fmt.Sprint("Word ", word), word >= 0 && word <= 65535, func(k *impl.Kern) { k.Notes[1].Word = word }})
	}
	checkKernCases(t, cases)
}

// kernTwoNodes is two nodes, from 128 to 159 and from 512 to 519, and a notification with a copy at an address.
func kernTwoNodes(at int) impl.Kern {
	return impl.Kern{Bits: 10, Slots: []impl.TreeSlot{
		{At: 68, Cap: origOf(impl.CapNode, 128, 3)},
		{At: 72, Cap: origOf(impl.CapNode, 512, 1)},
		{At: 76, Cap: origOf(impl.CapNote, 360, 0)},
		{At: at, Cap: copyOf(impl.CapNote, 360, 0), Depth: 1},
	}, Notes: []impl.KernNote{{At: 360}}}
}

func TestKernHomes(t *testing.T) {
	var cases []kernCase
	// All slots of the full state are taken, but those of threads, which hold no notification.
	for at := 60; at < 1028; at += 4 {
		cases = append(cases, kernCase{fmt.Sprint("in the full state at ", at), at == 144, func(k *impl.Kern) { slotOf(k, 144).At = at }})
	}
	for at := 60; at < 1028; at += 4 {
		own := at >= 64 && at < 128 && at != 68 && at != 72 && at != 76
		node := at >= 128 && at < 160 || at >= 512 && at < 520
		cases = append(cases, kernCase{fmt.Sprint("beside two nodes at ", at), own || node, func(k *impl.Kern) { *k = kernTwoNodes(at) }})
	}
	cases = append(cases,
		kernCase{"in a node of which there is no original", false, func(k *impl.Kern) { cutSlot(k, 152); cutSlot(k, 512) }},
		kernCase{"in a node of which there is just a copy", false, func(k *impl.Kern) { *k = kernTwoNodes(512); k.Slots[1].Cap.Orig = false }},
	)
	checkKernCases(t, cases)
}

// Each of a thread's three slots with each kind, as a copy and as an original.
func TestKernThreadSlots(t *testing.T) {
	ups := map[int]int{impl.CapNode: 64, impl.CapThread: 88, impl.CapEnd: 96, impl.CapNote: 100, impl.CapFrame: 108}
	var cases []kernCase
	for n, own := range []int{impl.CapNode, impl.CapReply, impl.CapEnd} {
		at := 192 + 4*n
		for kind, up := range ups {
			name := fmt.Sprint("slot ", n, " kind ", kind)
			cases = append(cases,
				kernCase{name, kind == own, func(k *impl.Kern) {
					c := slotOf(k, up).Cap
					c.Orig = false
					putSlot(k, up, at, c)
				}},
				kernCase{name + " original", false, func(k *impl.Kern) { slotOf(k, up).At = at }},
				kernCase{name + " something came of it", false, func(k *impl.Kern) {
					c := slotOf(k, up).Cap
					c.Orig = false
					cutSlot(k, 144)
					putSlot(k, up, at, c)
					putSlot(k, at, 144, c)
				}},
				kernCase{name + " something came beside it", kind == own, func(k *impl.Kern) {
					c := slotOf(k, up).Cap
					c.Orig = false
					cutSlot(k, 144)
					putSlot(k, up, 144, c)
					putSlot(k, up, at, c)
				}})
		}
		cases = append(cases, kernCase{fmt.Sprint("slot ", n, " a region"), false, func(k *impl.Kern) { cutSlot(k, 144); putSlot(k, 0, at, regionOf(640, 5, 0)) }})
	}
	cases = append(cases,
		kernCase{"all three", true, func(k *impl.Kern) {
			putSlot(k, 64, 320, copyOf(impl.CapNode, 128, 3))
			putSlot(k, 88, 324, copyOf(impl.CapReply, 320, 0))
			putSlot(k, 136, 328, endOf(352, 0, 7))
			threadOf(k, 320).State = impl.KernCalls
		}},
		kernCase{"a fourth slot", false, func(k *impl.Kern) { putSlot(k, 96, 204, endOf(356, 1, 0)) }},
		kernCase{"a space with a guard", true, func(k *impl.Kern) {
			c := copyOf(impl.CapNode, 128, 3)
			c.Guard, c.GuardBits = 255, 8
			putSlot(k, 64, 192, c)
		}},
	)
	checkKernCases(t, cases)
}

func TestKernMemory(t *testing.T) {
	var cases []kernCase
	// A frame that came of nothing, in each place where nothing lies and in others.
	for _, addr := range []int{0, 64, 96, 120, 124, 128, 132, 376, 416, 448, 508, 512, 560, 636, 640, 644, 1016, 1020, 1024, 4092} {
		free := addr >= 376 && addr < 384 || addr >= 416 && addr < 512 || addr >= 640 && addr < 1024
		cases = append(cases, kernCase{fmt.Sprint("a frame at ", addr), free, func(k *impl.Kern) {
			cutSlot(k, 144)
			putSlot(k, 0, 144, origOf(impl.CapFrame, addr, 2))
			k.Frames = append(k.Frames, impl.KernFrame{At: addr, Data: make([]uint32, 4)})
			slices.SortFunc(k.Frames, func(a, b impl.KernFrame) int { return a.At - b.At })
		}})
	}
	for _, bits := range []int{9, 10, 11, 12} {
		for _, kind := range []int{impl.CapNode, impl.CapThread, impl.CapEnd, impl.CapNote, impl.CapFrame, impl.CapUntyped} {
			for _, beyond := range []int{0, 1} {
				cases = append(cases, kernCase{fmt.Sprint("kind ", kind, " bits ", bits, " beyond ", beyond), beyond == 0, func(k *impl.Kern) {
					*k = kernAtEnd(bits, kind, beyond)
				}})
			}
		}
	}
	for _, addr := range []int{64, 96, 120, 128} {
		for _, kind := range []int{impl.CapNode, impl.CapThread, impl.CapEnd, impl.CapNote, impl.CapFrame, impl.CapUntyped} {
			size := impl.CapSize(kind, fewBits(kind))
			if addr%size != 0 {
				continue
			}
			cases = append(cases, kernCase{fmt.Sprint("kind ", kind, " at ", addr), addr >= 128, func(k *impl.Kern) { *k = kernWithOne(9, kind, addr) }})
		}
	}
	checkKernCases(t, cases)
}

// fewBits is bits that a kind may have.
func fewBits(kind int) int {
	return map[int]int{impl.CapNode: 1, impl.CapFrame: 2, impl.CapUntyped: 3}[kind]
}

// kernWithOne is a state with one object.
func kernWithOne(bits int, kind int, addr int) impl.Kern {
	k := impl.Kern{Bits: bits}
	m := &kernMaker{r: rand.New(rand.NewSource(1)), k: k}
	m.k.Slots = []impl.TreeSlot{{At: 64, Cap: origOf(kind, addr, fewBits(kind))}}
	m.object(kind, addr, fewBits(kind))
	return m.k
}

// kernAtEnd is a state with one object that ends where memory does, or so many objects behind that.
func kernAtEnd(bits int, kind int, beyond int) impl.Kern {
	size := impl.CapSize(kind, fewBits(kind))
	return kernWithOne(bits, kind, 1<<bits-size+beyond*size)
}

func TestKernDerived(t *testing.T) {
	checkKernCases(t, []kernCase{
		{"originals of nothing that meet", false, func(k *impl.Kern) { slotOf(k, 96).Cap.Addr = 352 }},
		{"an endpoint in a thread", false, func(k *impl.Kern) {
			slotOf(k, 96).Cap.Addr = 340
			k.Ends[0], k.Ends[1] = impl.KernEnd{At: 340, Kind: 2, List: []int{224}}, k.Ends[0]
			threadOf(k, 224).On = 340
		}},
		{"originals of a region that meet", false, func(k *impl.Kern) { slotOf(k, 156).Cap.Addr = 516; k.Ends[2].At = 516 }},
		{"an endpoint in another place of its region", true, func(k *impl.Kern) { slotOf(k, 156).Cap.Addr = 524; k.Ends[2].At = 524 }},
		{"at the end of the first Free words", true, func(k *impl.Kern) { slotOf(k, 156).Cap.Addr = 556; k.Ends[2].At = 556 }},
		{"behind the first Free words", false, func(k *impl.Kern) { slotOf(k, 156).Cap.Addr = 560; k.Ends[2].At = 560 }},
		{"just half in the first Free words", false, func(k *impl.Kern) {
			slotOf(k, 112).Cap.Free = 46
			slotOf(k, 156).Cap.Addr = 556
			k.Ends[2].At = 556
		}},
		{"ahead of its region", false, func(k *impl.Kern) { slotOf(k, 156).Cap.Addr = 508; k.Ends[2].At = 508 }},
		{"larger than its region", false, func(k *impl.Kern) {
			*k = impl.Kern{Bits: 10, Slots: []impl.TreeSlot{{At: 64, Cap: regionOf(516, 2, 4)}, {At: 68, Cap: origOf(impl.CapNode, 512, 1), Depth: 1}}}
		}},
		{"Free that is just enough", true, func(k *impl.Kern) { slotOf(k, 112).Cap.Free = 32 }},
		{"Free that is all", true, func(k *impl.Kern) { slotOf(k, 112).Cap.Free = 128 }},
		{"Free that is a word too few", false, func(k *impl.Kern) { slotOf(k, 112).Cap.Free = 31 }},
		{"Free 0", false, func(k *impl.Kern) { slotOf(k, 112).Cap.Free = 0 }},
		{"Free 0 of an inner region", false, func(k *impl.Kern) { slotOf(k, 516).Cap.Free = 0 }},
		{"Free 7 of an inner region", false, func(k *impl.Kern) { slotOf(k, 516).Cap.Free = 7 }},
		{"an original that came of an endpoint", false, func(k *impl.Kern) { slotOf(k, 96).Depth = 1 }},
		{"an original that came of a node", false, func(k *impl.Kern) { slotOf(k, 68).Depth = 1; slotOf(k, 132).Depth = 2 }},
		{"originals of different regions that meet", false, func(k *impl.Kern) {
			// An endpoint of the outer region in the inner one.
			slotOf(k, 156).Cap.Addr = 540
			k.Ends[2].At = 540
		}},
		{"one more region in a region", true, func(k *impl.Kern) {
			slotOf(k, 516).Cap = regionOf(528, 4, 16)
			cutSlot(k, 144)
			putSlot(k, 516, 144, regionOf(536, 3, 3))
		}},
		{"a copy that came of nothing", false, func(k *impl.Kern) { slotOf(k, 144).Depth = 0 }},
		{"a copy that came of another endpoint", false, func(k *impl.Kern) { cutSlot(k, 144); putSlot(k, 96, 144, endOf(352, 1, 0)) }},
		{"a copy that came of a copy", true, func(k *impl.Kern) { cutSlot(k, 144); putSlot(k, 136, 144, endOf(352, 2, 7)) }},
		{"a right more than the original", false, func(k *impl.Kern) { slotOf(k, 92).Cap.Rights = 3 }},
		{"a right more than what it came of", false, func(k *impl.Kern) { slotOf(k, 140).Cap.Rights = 4 }},
		{"the same rights", true, func(k *impl.Kern) { slotOf(k, 140).Cap.Rights = 3 }},
		{"no rights", true, func(k *impl.Kern) { slotOf(k, 140).Cap.Rights = 0 }},
		{"another badge", false, func(k *impl.Kern) { slotOf(k, 140).Cap.Badge = 8 }},
		{"no badge on a badge", false, func(k *impl.Kern) { slotOf(k, 140).Cap.Badge = 0 }},
		{"another size", false, func(k *impl.Kern) { slotOf(k, 148).Cap.Bits = 1 }},
		{"another kind", false, func(k *impl.Kern) { slotOf(k, 144).Cap.Kind = impl.CapEnd }},
		{"a copy that came of a region", false, func(k *impl.Kern) { slotOf(k, 512).Depth = 1 }},
	})
}

func TestKernEmpties(t *testing.T) {
	two := func(bits int, slots ...impl.TreeSlot) func(k *impl.Kern) {
		return func(k *impl.Kern) { *k = impl.Kern{Bits: bits, Slots: slots} }
	}
	a, b, c := origOf(impl.CapNode, 128, 1), origOf(impl.CapNode, 136, 1), origOf(impl.CapNode, 144, 1)
	copied := copyOf(impl.CapNode, 128, 1)
	checkKernCases(t, []kernCase{
		{"a node that holds its own original", false, two(9, impl.TreeSlot{At: 128, Cap: a})},
		{"a node that holds its own original, with a copy", false, two(9, impl.TreeSlot{At: 128, Cap: a}, impl.TreeSlot{At: 64, Cap: copied, Depth: 1})},
		{"a node that holds a copy of itself", true, two(9, impl.TreeSlot{At: 64, Cap: a}, impl.TreeSlot{At: 128, Cap: copied, Depth: 1})},
		{"two nodes each of which holds the other's", false, two(9, impl.TreeSlot{At: 128, Cap: b}, impl.TreeSlot{At: 136, Cap: a})},
		{"a node that holds another one", true, two(9, impl.TreeSlot{At: 128, Cap: b}, impl.TreeSlot{At: 64, Cap: a})},
		{"three nodes in a ring", false, two(9, impl.TreeSlot{At: 128, Cap: b}, impl.TreeSlot{At: 136, Cap: c}, impl.TreeSlot{At: 144, Cap: a})},
		{"three nodes in a ring, with one aside", false, two(9, impl.TreeSlot{At: 128, Cap: b}, impl.TreeSlot{At: 136, Cap: c}, impl.TreeSlot{At: 144, Cap: a}, impl.TreeSlot{At: 64, Cap: origOf(impl.CapNode, 152, 1)})},
		{"three nodes in a row", true, two(9, impl.TreeSlot{At: 128, Cap: b}, impl.TreeSlot{At: 136, Cap: c}, impl.TreeSlot{At: 64, Cap: a})},
		{"a node that holds the region it was made of", false, two(9, impl.TreeSlot{At: 128, Cap: regionOf(128, 4, 8)}, impl.TreeSlot{At: 64, Cap: a, Depth: 1})},
		{"a node that holds the region of the region it was made of", false, two(9, impl.TreeSlot{At: 128, Cap: regionOf(128, 6, 64)}, impl.TreeSlot{At: 68, Cap: regionOf(128, 5, 8), Depth: 1}, impl.TreeSlot{At: 64, Cap: a, Depth: 2})},
		{"a node that holds a region beside", true, two(9, impl.TreeSlot{At: 128, Cap: regionOf(144, 4, 8)}, impl.TreeSlot{At: 64, Cap: a})},
		{"a node made of a region holds another original of that", true, two(9, impl.TreeSlot{At: 64, Cap: regionOf(128, 4, 16)}, impl.TreeSlot{At: 68, Cap: a, Depth: 1}, impl.TreeSlot{At: 128, Cap: b, Depth: 1})},
		{"two nodes, in each of which lies the region of the other", false, two(10,
			impl.TreeSlot{At: 256, Cap: regionOf(128, 4, 8)}, impl.TreeSlot{At: 64, Cap: a, Depth: 1},
			impl.TreeSlot{At: 128, Cap: regionOf(256, 4, 8)}, impl.TreeSlot{At: 68, Cap: origOf(impl.CapNode, 256, 1), Depth: 1})},
		{"the first node of the full state in itself", false, func(k *impl.Kern) { cutSlot(k, 144); slotOf(k, 64).At = 144 }},
		{"the first node of the full state in the one that it holds", false, func(k *impl.Kern) { cutSlot(k, 512); slotOf(k, 64).At = 512 }},
		{"the inner node of the full state in itself", false, func(k *impl.Kern) { cutSlot(k, 512); slotOf(k, 152).At = 512 }},
		{"the outer region of the full state in the node made of it", false, func(k *impl.Kern) { cutSlot(k, 512); slotOf(k, 112).At = 512 }},
		{"a thread's original in the first node", true, func(k *impl.Kern) { cutSlot(k, 144); slotOf(k, 68).At = 144 }},
	})
}

func TestKernNested(t *testing.T) {
	for _, nodes := range []int{1, 2, 3, 10, 299} {
		k := kernNested(nodes)
		if !impl.KernOk(k) || !wantKernOk(k) {
			t.Fatal(nodes, "nodes that lie in each other")
		}
		// Of each node the way leads down to the last one, and to what came of it in the first.
		for i, s := range k.Slots {
			if nodes == 299 && i%50 != 0 {
				continue
			}
			if next := impl.KernNext(k, s.At); next != 128 {
				t.Error(nodes, "next of", s.At, "is", next)
			}
		}
		// The first one in the last one closes the ring.
		k.Slots[0].At = 128 + 8*(nodes-1) + 4
		if impl.KernOk(k) || wantKernOk(k) || impl.KernNext(k, 128) != -1 {
			t.Error(nodes, "a ring")
		}
	}
	if k := kernNested(300); impl.KernOk(k) || impl.KernNext(k, 64) != -1 {
		t.Error("301 slots")
	}
	if k := kernRegions(); !checkKern(t, k) || impl.KernNext(k, 64) != 124 {
		t.Error("regions that begin at one address")
	}
}

// TestKernLowest has slots of a node that do not stand in the order of their addresses.
func TestKernLowest(t *testing.T) {
	k := impl.Kern{Bits: 9, Slots: []impl.TreeSlot{
		{At: 64, Cap: origOf(impl.CapNode, 128, 2)},
		{At: 68, Cap: origOf(impl.CapEnd, 160, 0)},
		{At: 140, Cap: endOf(160, 7, 0), Depth: 1},
		{At: 136, Cap: endOf(160, 7, 1), Depth: 1},
		{At: 132, Cap: endOf(160, 7, 2), Depth: 1},
		{At: 72, Cap: endOf(160, 7, 2), Depth: 2},
	}, Ends: []impl.KernEnd{{At: 160}}}
	if !checkKern(t, k) || impl.KernNext(k, 64) != 72 || impl.KernNext(k, 68) != 140 {
		t.Error(impl.KernNext(k, 64), impl.KernNext(k, 68))
	}
}

// eachLeaf goes through all numbers and truths of a state.
func eachLeaf(v reflect.Value, path string, tell func(path string, leaf reflect.Value)) {
	switch v.Kind() {
	case reflect.Struct:
		for i := range v.NumField() {
			eachLeaf(v.Field(i), path+"."+v.Type().Field(i).Name, tell)
		}
	case reflect.Slice, reflect.Array:
		for i := range v.Len() {
			eachLeaf(v.Index(i), fmt.Sprint(path, "[", i, "]"), tell)
		}
	default:
		tell(path, v)
	}
}

// eachList goes through all lists of a state.
func eachList(v reflect.Value, path string, tell func(path string, list reflect.Value)) {
	switch v.Kind() {
	case reflect.Struct:
		for i := range v.NumField() {
			eachList(v.Field(i), path+"."+v.Type().Field(i).Name, tell)
		}
	case reflect.Slice, reflect.Array:
		if v.Kind() == reflect.Slice {
			tell(path, v)
		}
		for i := range v.Len() {
			eachList(v.Index(i), fmt.Sprint(path, "[", i, "]"), tell)
		}
	}
}

// otherValues is what a leaf is changed to.
func otherValues(leaf reflect.Value, numbers []int) []reflect.Value {
	switch leaf.Kind() {
	case reflect.Bool:
		return []reflect.Value{reflect.ValueOf(!leaf.Bool())}
	case reflect.Uint32:
		old := uint32(leaf.Uint())
		return []reflect.Value{reflect.ValueOf(old ^ 1), reflect.ValueOf(uint32(0)), reflect.ValueOf(old ^ 1<<31), reflect.ValueOf(uint32(math.MaxUint32))}
	}
	old := int(leaf.Int())
	var list []reflect.Value
	for _, n := range append([]int{old - 1, old + 1, old - 4, old + 4, old + 32, -old, old + math.MinInt}, numbers...) {
		if n != old {
			list = append(list, reflect.ValueOf(n))
		}
	}
	return list
}

// changedLists is lists with one more, one fewer, or in another order.
func changedLists(list reflect.Value) []reflect.Value {
	n := list.Len()
	none := reflect.MakeSlice(list.Type(), 0, 0)
	all := reflect.AppendSlice(none, list)
	zero := reflect.Zero(list.Type().Elem())
	changed := []reflect.Value{reflect.Append(all, zero), reflect.Zero(list.Type()), none}
	for i := range n {
		cut := reflect.AppendSlice(reflect.AppendSlice(none, list.Slice(0, i)), list.Slice(i+1, n))
		twice := reflect.AppendSlice(reflect.AppendSlice(none, list.Slice(0, i+1)), list.Slice(i, n))
		changed = append(changed, cut, twice)
		if i+1 < n {
			swapped := reflect.AppendSlice(none, list)
			reflect.Swapper(swapped.Interface())(i, i+1)
			changed = append(changed, swapped)
		}
	}
	return changed
}

// eachChange hands out a state with each change of one leaf or one list. The state that is handed out is the same memory each time.
func eachChange(k impl.Kern, numbers []int, tell func(path string, k impl.Kern)) {
	c := kernCopy(k)
	root := reflect.ValueOf(&c).Elem()
	change := func(others func(v reflect.Value) []reflect.Value) func(path string, v reflect.Value) {
		return func(path string, v reflect.Value) {
			old := reflect.New(v.Type()).Elem()
			old.Set(v)
			for _, other := range others(v) {
				v.Set(other)
				tell(path, c)
			}
			v.Set(old)
		}
	}
	eachLeaf(root, "", change(func(v reflect.Value) []reflect.Value { return otherValues(v, numbers) }))
	eachList(root, "", change(changedLists))
}

// kernNumbers is addresses and small numbers that mean something in kernFull, and the ends of what numbers may be.
var kernNumbers = []int{
	math.MinInt, -1, 0, 1, 2, 3, 4, 5, 6, 7, 8, 9, 11, 12, 13, 16, 32, 48, 49, 60, 64, 72, 124, 127, 128, 132, 160, 164, 168, 172, 192, 196, 200, 204,
	224, 256, 320, 352, 356, 360, 364, 368, 384, 416, 512, 516, 520, 528, 532, 536, 540, 544, 640, 1020, 1024, 4092, 4096, 65535, 65536, 1000000, 1000001, math.MaxInt,
}

func TestKernEachChange(t *testing.T) {
	states := []impl.Kern{kernFull(), kernNested(4), kernRegions(), {Bits: 9}}
	oks, others := 0, 0
	for _, k := range states {
		eachChange(k, kernNumbers, func(path string, c impl.Kern) {
			if !checkKernOk(t, c) {
				others++
				if others%50 == 0 {
					checkKern(t, c)
				}
				return
			}
			oks++
			if oks%20 == 0 {
				checkKern(t, c)
				checkPromise6(t, c)
			}
		})
	}
	if oks < 1000 || others < 10000 {
		t.Error("the changes are not as they were meant", oks, others)
	}
}

func TestKernAny(t *testing.T) {
	r := rand.New(rand.NewSource(4))
	states := map[int]int{}
	for i := range 600 {
		k := anyKern(r, r.Intn(60))
		if !wantKernOk(k) {
			t.Fatalf("the test makes a state that is not ok\n%+v", k)
		}
		checkPromise6(t, k)
		if i%10 == 0 {
			checkKern(t, k)
		} else {
			checkKernOk(t, k)
		}
		for _, th := range k.Threads {
			states[th.State]++
		}
	}
	if len(states) != 6 {
		t.Error("not all states of threads were made", states)
	}
	most := 0
	for range 20 {
		k := anyKern(r, 1500)
		if !checkKernOk(t, k) {
			t.Fatalf("a large state\n%+v", k)
		}
		checkPromise6(t, k)
		most = max(most, len(k.Slots))
	}
	if most != 300 {
		t.Error("no state has all slots that there may be, but", most)
	}
}

// turned changes some numbers of a state to others that stand in it.
func turned(r *rand.Rand, k impl.Kern, times int) impl.Kern {
	c := kernCopy(k)
	var leaves []reflect.Value
	var numbers []int
	eachLeaf(reflect.ValueOf(&c).Elem(), "", func(path string, leaf reflect.Value) {
		leaves = append(leaves, leaf)
		if leaf.Kind() == reflect.Int {
			numbers = append(numbers, int(leaf.Int()))
		}
	})
	for range times {
		leaf := leaves[r.Intn(len(leaves))]
		others := otherValues(leaf, []int{numbers[r.Intn(len(numbers))], numbers[r.Intn(len(numbers))]})
		leaf.Set(others[r.Intn(len(others))])
	}
	return c
}

func TestKernTurned(t *testing.T) {
	r := rand.New(rand.NewSource(14))
	oks := 0
	for range 300 {
		k := anyKern(r, r.Intn(40))
		for i := range 30 {
			c := turned(r, k, 1+r.Intn(3))
			if checkKernOk(t, c) {
				oks++
			}
			if i == 0 {
				checkKern(t, c)
			}
		}
	}
	if oks < 300 || oks > 8700 {
		t.Error("the changes are not as they were meant", oks)
	}
}

// TestKernMoved moves slots of states by chance, within the room that there is: so nodes come to hold each other, and themselves.
func TestKernMoved(t *testing.T) {
	r := rand.New(rand.NewSource(24))
	rings := 0
	for range 400 {
		k := anyKern(r, 10+r.Intn(30))
		for range 10 {
			c := kernCopy(k)
			for range 1 + r.Intn(4) {
				i, j := r.Intn(len(c.Slots)+1), r.Intn(len(c.Slots)+1)
				if i < len(c.Slots) && j < len(c.Slots) {
					c.Slots[i].At, c.Slots[j].At = c.Slots[j].At, c.Slots[i].At
				}
			}
			checkKernOk(t, c)
			if !wantKernEmpties(c.Slots) {
				rings++
			}
		}
	}
	if rings < 50 {
		t.Error("too few rings", rings)
	}
}

// wildKern is small numbers everywhere, ok or not.
func wildKern(r *rand.Rand) impl.Kern {
	number := func() int {
		return []int{r.Intn(8), 4 * r.Intn(130), kernNumbers[r.Intn(len(kernNumbers))]}[r.Intn(3)]
	}
	list := func() []int {
		var out []int
		for range r.Intn(4) {
			out = append(out, number())
		}
		return out
	}
	k := impl.Kern{Bits: 8 + r.Intn(6), Ticks: number()}
	for range r.Intn(8) {
		c := impl.Cap{Kind: number() % 9, Addr: number(), Bits: number() % 13, Rights: number() % 9, Free: number() % 9, Orig: r.Intn(2) == 0}
		k.Slots = append(k.Slots, impl.TreeSlot{At: number(), Cap: c, Depth: r.Intn(3)})
	}
	for range r.Intn(4) {
		k.Threads = append(k.Threads, impl.KernThread{At: number(), State: number(), Prio: number(), Slice: number(), On: number()})
	}
	for range r.Intn(3) {
		k.Ends = append(k.Ends, impl.KernEnd{At: number(), Kind: number(), List: list()})
		k.Notes = append(k.Notes, impl.KernNote{At: number(), Active: r.Intn(2) == 0, Word: number(), List: list()})
		k.Frames = append(k.Frames, impl.KernFrame{At: number(), Data: make([]uint32, r.Intn(9))})
	}
	k.Ready[r.Intn(8)] = list()
	return k
}

func TestKernWild(t *testing.T) {
	r := rand.New(rand.NewSource(34))
	for range 3000 {
		k := wildKern(r)
		checkKern(t, k)
		if !impl.KernSame(k, k) || !impl.KernSame(k, kernCopy(k)) {
			t.Fatalf("a state is not the same as itself\n%+v", k)
		}
	}
	many := impl.Kern{Bits: 9, Slots: make([]impl.TreeSlot, 100000), Threads: make([]impl.KernThread, 100000), Ends: make([]impl.KernEnd, 100000)}
	checkKern(t, impl.Kern{Bits: 9, Threads: many.Threads, Ends: many.Ends})
	if impl.KernOk(many) || impl.KernNext(many, 0) != -1 {
		t.Error("too many of all")
	}
}

// TestKernTakenDown drops the slot that goes next, with its object, until nothing is left, of states in which nobody waits.
func TestKernTakenDown(t *testing.T) {
	r := rand.New(rand.NewSource(44))
	for range 60 {
		k := anyKern(r, 40)
		k.Ready = [8][]int{}
		k.Slots = slices.DeleteFunc(k.Slots, func(s impl.TreeSlot) bool { return s.Cap.Kind == impl.CapReply })
		for i := range k.Threads {
			k.Threads[i] = impl.KernThread{At: k.Threads[i].At, Slice: 4}
		}
		for i := range k.Ends {
			k.Ends[i] = impl.KernEnd{At: k.Ends[i].At}
		}
		for i := range k.Notes {
			k.Notes[i] = impl.KernNote{At: k.Notes[i].At}
		}
		for len(k.Slots) > 0 {
			from := k.Slots[r.Intn(len(k.Slots))].At
			next := impl.KernNext(k, from)
			if next < 0 {
				t.Fatalf("nothing goes next of %d\n%+v", from, k)
			}
			dropOf(&k, next)
		}
		if !impl.KernOk(k) {
			t.Fatalf("what is left\n%+v", k)
		}
	}
}

// dropOf cuts a slot, with the object, if it holds an original.
func dropOf(k *impl.Kern, at int) {
	c := slotOf(k, at).Cap
	cutSlot(k, at)
	if !c.Orig {
		return
	}
	switch c.Kind {
	case impl.CapThread:
		k.Threads = slices.DeleteFunc(k.Threads, func(t impl.KernThread) bool { return t.At == c.Addr })
	case impl.CapEnd:
		k.Ends = slices.DeleteFunc(k.Ends, func(e impl.KernEnd) bool { return e.At == c.Addr })
	case impl.CapNote:
		k.Notes = slices.DeleteFunc(k.Notes, func(n impl.KernNote) bool { return n.At == c.Addr })
	case impl.CapFrame:
		k.Frames = slices.DeleteFunc(k.Frames, func(f impl.KernFrame) bool { return f.At == c.Addr })
	}
}

// checkPromise7 asks two states both ways.
func checkPromise7(t *testing.T, a impl.Kern, b impl.Kern) bool {
	t.Helper()
	same := impl.KernSame(a, b)
	if same != wantKernSame(a, b) {
		t.Fatalf("KernSame: %v\n%+v\n%+v", same, a, b)
	}
	if impl.KernSame(b, a) != same {
		t.Fatalf("KernSame goes one way\n%+v\n%+v", a, b)
	}
	if same && (impl.KernOk(a) != impl.KernOk(b) || impl.KernCur(a) != impl.KernCur(b)) {
		t.Fatalf("states that are the same differ\n%+v\n%+v", a, b)
	}
	return same
}

func TestKernPromise7(t *testing.T) {
	states := []impl.Kern{kernFull(), kernNested(3), kernRegions(), {Bits: 9}, {}}
	for i, a := range states {
		for j, b := range states {
			if checkPromise7(t, a, kernCopy(b)) != (i == j) {
				t.Error(i, j)
			}
		}
		// Each field by itself: just an empty list in place of an empty list leaves the state as it was.
		eachChange(a, []int{0, 1, 2}, func(path string, c impl.Kern) {
			checkPromise7(t, a, c)
		})
	}
	full := kernFull()
	eachLeaf(reflect.ValueOf(&full).Elem(), "", func(path string, leaf reflect.Value) {
		old := reflect.New(leaf.Type()).Elem()
		old.Set(leaf)
		for _, other := range otherValues(leaf, nil) {
			leaf.Set(other)
			if !other.Equal(old) && (impl.KernSame(full, kernFull()) || impl.KernSame(kernFull(), full)) {
				t.Error("the same with another", path)
			}
		}
		leaf.Set(old)
	})
	if !impl.KernSame(full, kernFull()) {
		t.Error("put back")
	}
}

func TestKernPromise7Lists(t *testing.T) {
	orders := []func(k *impl.Kern){
		func(k *impl.Kern) { k.Slots[5], k.Slots[6] = k.Slots[6], k.Slots[5] },
		func(k *impl.Kern) { k.Threads[0], k.Threads[1] = k.Threads[1], k.Threads[0] },
		func(k *impl.Kern) { k.Ends[0], k.Ends[1] = k.Ends[1], k.Ends[0] },
		func(k *impl.Kern) { k.Notes[1], k.Notes[2] = k.Notes[2], k.Notes[1] },
		func(k *impl.Kern) { k.Frames[0], k.Frames[1] = k.Frames[1], k.Frames[0] },
		func(k *impl.Kern) { k.Ready[3] = []int{160, 384} },
		func(k *impl.Kern) { k.Ready[3], k.Ready[4] = nil, k.Ready[3] },
		func(k *impl.Kern) {
			k.Frames[0].Data[0], k.Frames[0].Data[3] = k.Frames[0].Data[3], k.Frames[0].Data[0]
		},
		func(k *impl.Kern) { k.Ends[0].List = []int{192, 320} },
		func(k *impl.Kern) { k.Ends[0].List = nil },
		func(k *impl.Kern) { k.Notes[0].List = []int{} },
		func(k *impl.Kern) { k.Frames[0].Data = k.Frames[0].Data[:3] },
	}
	for i, order := range orders {
		k := kernFull()
		order(&k)
		if checkPromise7(t, k, kernFull()) {
			t.Error("order", i)
		}
	}
	a, b := kernFull(), kernFull()
	a.Ends[0].List, b.Ends[0].List = []int{1, 2}, []int{2, 1}
	if checkPromise7(t, a, b) {
		t.Error("the order of an endpoint's list")
	}
	a, b = kernFull(), kernFull()
	a.Notes[0].List, b.Notes[0].List = []int{1, 2}, []int{2, 1}
	if checkPromise7(t, a, b) {
		t.Error("the order of a notification's list")
	}
	a, b = kernFull(), kernFull()
	a.Ends[2].List, b.Ends[2].List = []int{}, nil
	a.Notes[1].List, b.Notes[2].List = []int{}, []int{}
	a.Ready[0], b.Ready[7] = []int{}, []int{}
	if !checkPromise7(t, a, b) {
		t.Error("empty lists and nil lists")
	}
}

func TestKernPromise7Any(t *testing.T) {
	r := rand.New(rand.NewSource(7))
	for range 300 {
		k := anyKern(r, r.Intn(40))
		if !checkPromise7(t, k, kernCopy(k)) || !checkPromise7(t, k, withNil(k)) {
			t.Fatalf("a state is not the same as its copy\n%+v", k)
		}
		checkPromise7(t, k, turned(r, k, 1))
		checkPromise7(t, k, anyKern(r, r.Intn(4)))
	}
}

// spared is a list with room behind its end, in which something stands.
func spared[T any](list []T, mark T) []T {
	out := append(slices.Clone(list), mark, mark)
	return out[:len(list)]
}

// sparedKern is a state whose lists all have room behind their ends.
func sparedKern(k impl.Kern) impl.Kern {
	c := kernCopy(k)
	for i := range c.Ends {
		c.Ends[i].List = spared(c.Ends[i].List, -7)
	}
	for i := range c.Notes {
		c.Notes[i].List = spared(c.Notes[i].List, -7)
	}
	for i := range c.Frames {
		c.Frames[i].Data = spared(c.Frames[i].Data, 77)
	}
	for prio := range c.Ready {
		c.Ready[prio] = spared(c.Ready[prio], -7)
	}
	c.Slots = spared(c.Slots, impl.TreeSlot{At: -7})
	c.Threads = spared(c.Threads, impl.KernThread{At: -7})
	c.Ends = spared(c.Ends, impl.KernEnd{At: -7})
	c.Notes = spared(c.Notes, impl.KernNote{At: -7})
	c.Frames = spared(c.Frames, impl.KernFrame{At: -7})
	return c
}

// wholeKern is a state with what stands behind the ends of its lists.
func wholeKern(k impl.Kern) impl.Kern {
	c := k
	c.Slots = slices.Clone(k.Slots[:cap(k.Slots)])
	c.Threads = slices.Clone(k.Threads[:cap(k.Threads)])
	c.Ends = slices.Clone(k.Ends[:cap(k.Ends)])
	for i := range c.Ends {
		c.Ends[i].List = slices.Clone(c.Ends[i].List[:cap(c.Ends[i].List)])
	}
	c.Notes = slices.Clone(k.Notes[:cap(k.Notes)])
	for i := range c.Notes {
		c.Notes[i].List = slices.Clone(c.Notes[i].List[:cap(c.Notes[i].List)])
	}
	c.Frames = slices.Clone(k.Frames[:cap(k.Frames)])
	for i := range c.Frames {
		c.Frames[i].Data = slices.Clone(c.Frames[i].Data[:cap(c.Frames[i].Data)])
	}
	for prio := range c.Ready {
		c.Ready[prio] = slices.Clone(k.Ready[prio][:cap(k.Ready[prio])])
	}
	return c
}

func TestKernArgumentsStay(t *testing.T) {
	r := rand.New(rand.NewSource(54))
	states := []impl.Kern{kernFull(), kernNested(5), kernRegions(), {Bits: 9}, {}}
	for range 40 {
		k := anyKern(r, 30)
		states = append(states, k, turned(r, k, 2), wildKern(r))
	}
	for _, k := range states {
		a, b := sparedKern(k), sparedKern(k)
		wholeA, wholeB := wholeKern(a), wholeKern(b)
		impl.KernOk(a)
		impl.KernSame(a, b)
		impl.KernCur(a)
		for _, at := range kernAsked(k) {
			impl.KernCap(a, at)
			impl.KernThreadAt(a, at)
			impl.KernNext(a, at)
		}
		if !reflect.DeepEqual(wholeKern(a), wholeA) || !reflect.DeepEqual(wholeKern(b), wholeB) {
			t.Fatalf("an argument was written into\n%+v", k)
		}
		if impl.KernOk(a) != impl.KernOk(k) || !impl.KernSame(a, k) {
			t.Fatalf("what stands behind the end of a list counts\n%+v", k)
		}
	}
}

// TestKernAnswersStay writes into a state behind an answer.
func TestKernAnswersStay(t *testing.T) {
	k := kernFull()
	c, _ := impl.KernCap(k, 140)
	th, _ := impl.KernThreadAt(k, 192)
	slotOf(&k, 140).Cap.Rights = 0
	threadOf(&k, 192).Out[1] = 9
	if c != endOf(352, 1, 7) || th != kernFull().Threads[1] {
		t.Error(c, th)
	}
}
