package tests

import (
	"fmt"
	"math"
	"math/rand"
	"reflect"
	"slices"
	"sync"
	"testing"

	"loop.example/donjon/impl"
)

// keptThread is a thread as it must be behind a drop that told some, and whether it must be there.
func keptThread(th impl.KernThread, dropped impl.Cap, told []int) (impl.KernThread, bool) {
	if slices.Contains(told, th.At) {
		th.State, th.Out = impl.KernRuns, [3]uint32{impl.CodeGone, 0, 0}
		th.On, th.Badge, th.Msg, th.Flags, th.Xfer = 0, 0, 0, 0, 0
	}
	return th, !dropped.Orig || dropped.Kind != impl.CapThread || dropped.Addr != th.At
}

// checkKeptObjects asks whether objects whose original is gone are gone, all others are there, and all are as they were, but for those of whom promise 19 tells.
func checkKeptObjects(t *testing.T, k impl.Kern, got impl.Kern, dropped impl.Cap, told []int) {
	t.Helper()
	gone := 0
	if dropped.Orig && dropped.Kind == impl.CapThread {
		gone = dropped.Addr
	}
	here := func(kind int, at int) bool { return !dropped.Orig || dropped.Kind != kind || dropped.Addr != at }
	without := func(list []int) []int {
		return slices.DeleteFunc(slices.Clone(list), func(at int) bool { return at == gone })
	}
	want := impl.Kern{Bits: k.Bits, Ticks: k.Ticks, Slots: got.Slots}
	for _, th := range k.Threads {
		if kept, there := keptThread(th, dropped, told); there {
			want.Threads = append(want.Threads, kept)
		}
	}
	for _, e := range k.Ends {
		if e.List = without(e.List); len(e.List) == 0 {
			e.Kind = 0
		}
		if here(impl.CapEnd, e.At) {
			want.Ends = append(want.Ends, e)
		}
	}
	for _, n := range k.Notes {
		if n.List = without(n.List); here(impl.CapNote, n.At) {
			want.Notes = append(want.Notes, n)
		}
	}
	for _, f := range k.Frames {
		if here(impl.CapFrame, f.At) {
			want.Frames = append(want.Frames, f)
		}
	}
	for prio, list := range k.Ready {
		want.Ready[prio] = without(list)
	}
	for _, at := range told {
		prio := threadOf(&k, at).Prio
		want.Ready[prio] = append(want.Ready[prio], at)
	}
	if !wantKernSame(got, want) {
		t.Fatalf("behind the drop of %v there is\n%+v\nwant\n%+v", dropped, got, want)
	}
}

// checkPromise19 asks the promise by itself of what was left when a slot was dropped.
func checkPromise19(t *testing.T, k impl.Kern, at int, got impl.Kern, gone int) {
	t.Helper()
	if !impl.KernOk(got) || !wantKernOk(got) {
		t.Fatalf("from %d: %d goes, and what is left is not ok\n%+v\nof\n%+v", at, gone, got, k)
	}
	if gone != impl.KernNext(k, at) {
		t.Fatalf("from %d: %d goes, and the next is %d", at, gone, impl.KernNext(k, at))
	}
	i := placeOf(k, gone)
	if !slices.Equal(got.Slots, slices.Delete(slices.Clone(k.Slots), i, i+1)) {
		t.Fatalf("from %d: other slots than %d are gone, or are not as they were\n%+v\nof\n%+v", at, gone, got, k)
	}
	for j, s := range got.Slots {
		was, is := upOf(k.Slots, placeOf(k, s.At)), upOf(got.Slots, j)
		if (was < 0) != (is < 0) || was >= 0 && k.Slots[was].At != got.Slots[is].At {
			t.Fatalf("from %d: %d came of another slot than before\n%+v\nof\n%+v", at, s.At, got, k)
		}
	}
	dropped := k.Slots[i].Cap
	checkKeptObjects(t, k, got, dropped, waitersOf(k, dropped))
	checkStands(t, got)
}

// checkReapOne holds a call against the document, at a state that is ok, and asks promises 19 and 20; it answers what was left.
func checkReapOne(t *testing.T, k impl.Kern, at int) (impl.Kern, int) {
	t.Helper()
	want, wantGone := wantReapOne(k, at)
	got, gone := impl.ReapOne(k, at)
	if gone != wantGone || !wantKernSame(got, want) {
		t.Fatalf("from %d: %d goes, want %d, got\n%+v\nwant\n%+v\nof\n%+v", at, gone, wantGone, got, want, k)
	}
	if placeOf(k, at) < 0 {
		if gone != -1 || !wantKernSame(got, k) {
			t.Fatalf("from %d, where nothing is: %d\n%+v\nof\n%+v", at, gone, got, k)
		}
		return got, gone
	}
	if len(got.Slots) != len(k.Slots)-1 {
		t.Fatalf("from %d: of %d slots %d are left", at, len(k.Slots), len(got.Slots))
	}
	checkPromise19(t, k, at, got, gone)
	return got, gone
}

// checkPromise22 asks the promise by itself of what a run left: the slot, if it is not to go itself, and all that it came of hold what they held.
func checkPromise22(t *testing.T, k impl.Kern, at int, self bool, got impl.Kern) {
	t.Helper()
	i := placeOf(k, at)
	if i < 0 {
		if !wantKernSame(got, k) {
			t.Fatalf("from %d, where nothing is\n%+v\nof\n%+v", at, got, k)
		}
		return
	}
	if self {
		i = upOf(k.Slots, i)
	}
	for ; i >= 0; i = upOf(k.Slots, i) {
		if !slices.Contains(got.Slots, k.Slots[i]) {
			t.Fatalf("from %d, itself %v: %v is gone\n%+v\nof\n%+v", at, self, k.Slots[i], got, k)
		}
	}
}

// checkReapRun holds a run against the document, at a state that is ok, and asks promise 22; it answers what was left, and whether nothing is left.
func checkReapRun(t *testing.T, k impl.Kern, at int, self bool, n int) (impl.Kern, bool) {
	t.Helper()
	want, wantDone := wantReapRun(k, at, self, n)
	got, done := impl.ReapRun(k, at, self, n)
	if done != wantDone || !wantKernSame(got, want) {
		t.Fatalf("from %d, itself %v, %d slots: %v, want %v, got\n%+v\nwant\n%+v\nof\n%+v", at, self, n, done, wantDone, got, want, k)
	}
	if left := impl.ReapLeft(got, at, self); left != done {
		t.Fatalf("from %d, itself %v: ReapLeft %v, ReapRun %v", at, self, left, done)
	}
	if !impl.KernOk(got) {
		t.Fatalf("from %d, itself %v, %d slots: what is left is not ok\n%+v\nof\n%+v", at, self, n, got, k)
	}
	checkPromise22(t, k, at, self, got)
	return got, done
}

// refusedReap asks for the fixed answers of a state that is not ok.
func refusedReap(t *testing.T, name string, k impl.Kern, ats []int) {
	t.Helper()
	for i, at := range ats {
		if got, gone := impl.ReapOne(k, at); gone != -1 || !wantKernSame(got, impl.Kern{}) {
			t.Fatalf("%s: from %d: %d %+v", name, at, gone, got)
		}
		for _, self := range []bool{false, true} {
			n := []int{0, 1, 2, 300, -1, math.MaxInt, math.MinInt}[i%7]
			if got, done := impl.ReapRun(k, at, self, n); done || !wantKernSame(got, impl.Kern{}) {
				t.Fatalf("%s: from %d, itself %v, %d slots: %v %+v", name, at, self, n, done, got)
			}
			if impl.ReapLeft(k, at, self) {
				t.Fatalf("%s: from %d, itself %v: nothing is left", name, at, self)
			}
		}
	}
}

// The states that the tests begin with are ok.
func TestReapStates(t *testing.T) {
	for i, k := range reapStates() {
		if !checkKernOk(t, k) {
			t.Error("not ok", i)
		}
		checkPromise16(t, k)
	}
}

// reapCase is a slot of a state that is taken back, slot by slot: which go, in their order, and what has changed of the state beside.
type reapCase struct {
	name   string
	at     int
	gone   []int
	change func(k *impl.Kern)
}

func checkReapCases(t *testing.T, k impl.Kern, cases []reapCase) {
	t.Helper()
	for _, c := range cases {
		want := kernCopy(k)
		for _, at := range c.gone {
			cutSlot(&want, at)
		}
		c.change(&want)
		got := k
		for i, next := range c.gone {
			gone := 0
			if got, gone = checkReapOne(t, got, c.at); gone != next {
				t.Fatalf("%s: place %d: %d goes, want %d", c.name, i, gone, next)
			}
		}
		if _, gone := impl.ReapOne(got, c.at); gone != -1 || !wantKernSame(got, want) {
			t.Errorf("%s: then %d goes, got\n%+v\nwant\n%+v", c.name, gone, got, want)
		}
		if run, done := impl.ReapRun(k, c.at, true, len(c.gone)); !done || !wantKernSame(run, want) {
			t.Errorf("%s: in one run: %v\n%+v\nwant\n%+v", c.name, done, run, want)
		}
	}
}

// With a copy nothing goes; with a reply its thread is told.
func TestReapCopies(t *testing.T) {
	checkReapCases(t, kernHouse(), []reapCase{
		{"a copy", 184, []int{184}, asItIs},
		{"a copy, of which one came", 180, []int{184, 180}, asItIs},
		{"a copy of a node, in a thread's space", 576, []int{576}, asItIs},
		{"a copy of a node, of which one came", 172, []int{176, 172}, asItIs},
		{"a copy of a node that lies in it", 536, []int{536}, asItIs},
		{"a copy of a thread, of which one came", 196, []int{200, 196}, asItIs},
		{"a copy of a notification", 188, []int{188}, asItIs},
		{"a copy of a frame", 192, []int{192}, asItIs},
		{"a handler", 264, []int{264}, asItIs},
		{"a reply that another thread holds", 388, []int{388}, func(k *impl.Kern) {
			toldIn(k, 640)
			k.Ready[3] = []int{256, 576, 640}
		}},
		{"a reply that its thread holds", 868, []int{868}, func(k *impl.Kern) {
			toldIn(k, 864)
			k.Ready[6] = []int{864}
		}},
	})
}

// With its original a thread goes, from wherever it stands.
func TestReapThreads(t *testing.T) {
	checkReapCases(t, kernHouse(), []reapCase{
		{"a thread that runs", 168, []int{168}, func(k *impl.Kern) {
			noThreads(k, 896)
			k.Ready[5] = nil
		}},
		{"a thread that is ready, the first, with what lies in it", 72, []int{256, 264, 72}, func(k *impl.Kern) {
			noThreads(k, 256)
			k.Ready[3] = []int{576}
		}},
		{"a thread that is ready, the last, with a reply in it", 520, []int{200, 196, 576, 580, 584, 520}, func(k *impl.Kern) {
			noThreads(k, 576)
			toldIn(k, 352)
			k.Ready[3], k.Ready[2] = []int{256}, []int{352}
		}},
		{"a thread that sends alone", 132, []int{608, 132}, func(k *impl.Kern) {
			noThreads(k, 608)
			k.Ends[0] = impl.KernEnd{At: 320}
		}},
		{"a thread that sends, the first", 104, []int{104}, func(k *impl.Kern) {
			noThreads(k, 448)
			k.Ends[2].List = []int{768}
		}},
		{"a thread that sends, the last", 156, []int{156}, func(k *impl.Kern) {
			noThreads(k, 768)
			k.Ends[2].List = []int{448}
		}},
		{"a thread that waits, the first", 140, []int{140}, func(k *impl.Kern) {
			noThreads(k, 672)
			k.Ends[1].List = []int{288}
		}},
		{"a thread that waits, the last", 76, []int{76}, func(k *impl.Kern) {
			noThreads(k, 288)
			k.Ends[1].List = []int{672}
		}},
		{"a thread that calls, whose reply goes ahead of it", 136, []int{388, 136}, func(k *impl.Kern) { noThreads(k, 640) }},
		{"a thread that calls, and holds its reply itself", 164, []int{868, 164}, func(k *impl.Kern) { noThreads(k, 864) }},
		{"a thread that listens, the first", 144, []int{144}, func(k *impl.Kern) {
			noThreads(k, 704)
			k.Notes[1].List = []int{416}
		}},
		{"a thread that listens, the last", 100, []int{100}, func(k *impl.Kern) {
			noThreads(k, 416)
			k.Notes[1].List = []int{704}
		}},
		{"a thread that is idle", 160, []int{160}, func(k *impl.Kern) { noThreads(k, 800) }},
		{"a thread that is idle, and holds a reply", 96, []int{388, 96}, func(k *impl.Kern) {
			noThreads(k, 384)
			toldIn(k, 640)
			k.Ready[3] = []int{256, 576, 640}
		}},
	})
}

// With its original an object goes, and who waited there is told; with a node what lies in it.
func TestReapObjects(t *testing.T) {
	checkReapCases(t, kernHouse(), []reapCase{
		{"an endpoint at which two wait", 552, []int{184, 180, 556, 264, 552}, func(k *impl.Kern) {
			k.Ends = slices.Delete(k.Ends, 1, 2)
			toldIn(k, 672)
			toldIn(k, 288)
			k.Ready[2] = []int{672, 288}
		}},
		{"an endpoint at which two send", 148, []int{204, 148}, func(k *impl.Kern) {
			k.Ends = slices.Delete(k.Ends, 2, 3)
			toldIn(k, 448)
			toldIn(k, 768)
			k.Ready[4] = []int{448, 768}
		}},
		{"an endpoint at which one sends", 80, []int{548, 584, 80}, func(k *impl.Kern) {
			k.Ends = k.Ends[1:]
			toldIn(k, 608)
			k.Ready[0] = []int{608}
		}},
		{"an endpoint with nobody", 836, []int{836}, func(k *impl.Kern) { k.Ends = k.Ends[:3] }},
		{"a notification to which two listen", 516, []int{188, 516}, func(k *impl.Kern) {
			k.Notes = slices.Delete(k.Notes, 1, 2)
			toldIn(k, 704)
			toldIn(k, 416)
			k.Ready[1] = []int{704, 416}
		}},
		{"a notification that is active", 152, []int{152}, func(k *impl.Kern) { k.Notes = k.Notes[:2] }},
		{"a frame", 524, []int{192, 524}, func(k *impl.Kern) { k.Frames = slices.Delete(k.Frames, 1, 2) }},
		{"a frame that came of nothing", 88, []int{88}, func(k *impl.Kern) { k.Frames = k.Frames[1:] }},
		{"a node with a frame and an endpoint", 532, []int{832, 836, 532}, func(k *impl.Kern) { k.Frames, k.Ends = k.Frames[:2], k.Ends[:3] }},
		{"a region, of which a node came that holds what came of it too", 528, []int{832, 836, 532, 528}, func(k *impl.Kern) { k.Frames, k.Ends = k.Frames[:2], k.Ends[:3] }},
		{"a node in which a node lies in which an endpoint lies", 512, []int{184, 180, 556, 264, 552, 544, 548, 512}, func(k *impl.Kern) {
			k.Ends = slices.Delete(k.Ends, 1, 2)
			toldIn(k, 672)
			toldIn(k, 288)
			k.Ready[2] = []int{672, 288}
		}},
	})
}

// emptyHouse is what is left of kernHouse when all that came of its region is gone.
func emptyHouse(k *impl.Kern) {
	for _, at := range []int{672, 288, 352, 448, 416} {
		toldIn(k, at)
	}
	noThreads(k, 576, 608, 640, 672, 704, 768, 800, 864, 896)
	k.Ends = []impl.KernEnd{{At: 320}}
	k.Notes, k.Frames = k.Notes[:1], k.Frames[:1]
	k.Ready = [8][]int{1: {416}, 2: {288, 352}, 3: {256}, 4: {448}}
}

// A whole region, and a node in which the slots of what came of it lie: the order goes from node to node.
func TestReapWholeHouse(t *testing.T) {
	k := kernHouse()
	first := []int{176, 172, 536, 576, 184, 180, 556, 264, 552, 544, 548, 512, 188, 516, 200, 196, 580, 584, 520, 192, 524, 832, 836, 532, 528}
	last := []int{388, 136, 140, 144, 204, 148, 152, 156, 160, 868, 164, 168}
	checkReapCases(t, k, []reapCase{
		{"the region", 68, slices.Concat(first, []int{540, 128, 608, 132}, last, []int{68}), emptyHouse},
		{"the node", 64, slices.Concat([]int{256, 608, 540}, first, []int{128, 132}, last, []int{64}), emptyHouse},
	})
	got, done := checkReapRun(t, k, 68, false, 100)
	if !done || got.Slots[placeOf(got, 68)].Cap != regionOf(512, 9, 416) || len(got.Slots) != 12 {
		t.Error(done, got)
	}
}

// ReapOne from each slot of many states.
func TestReapEachSlot(t *testing.T) {
	r := rand.New(rand.NewSource(110))
	states := reapStates()
	for range 60 {
		states = append(states, anyKern(r, 80))
	}
	kinds := map[string]int{}
	for _, k := range states {
		for _, at := range fewSlots(k, 70) {
			_, gone := checkReapOne(t, k, at)
			c := slotOf(&k, gone).Cap
			name := fmt.Sprintf("%d %v", c.Kind, c.Orig)
			if c.Kind == impl.CapThread && c.Orig {
				name = fmt.Sprint("thread ", threadOf(&k, c.Addr).State)
			}
			if len(waitersOf(k, c)) > 1 {
				name += " with many"
			}
			kinds[name]++
		}
	}
	for _, name := range []string{
		"1 true", "2 true", "2 false", "thread 0", "thread 1", "thread 2", "thread 3", "thread 5", "3 false",
		"4 true", "4 false", "4 true with many", "5 true", "5 false", "5 true with many", "6 true", "6 false", "7 false",
	} {
		if kinds[name] < 3 {
			t.Error("too few went of", name, kinds[name])
		}
	}
}

// Threads in lists of up to four: each goes out of the list in which it stands, and the others stay in their order; and all of a list are told in its order, behind those who are ready.
func TestReapLists(t *testing.T) {
	for size := range 5 {
		for i := range 7 {
			for _, turn := range []bool{false, true} {
				sizes := [7]int{2, 2, 2, 1, 1, 1, 1}
				sizes[i] = size
				k := kernQueues(sizes, turn)
				for j := range k.Threads {
					if j%2 == 0 {
						k.Threads[j].Max = 7 - j%8
					}
				}
				if !wantKernOk(k) {
					t.Fatal(sizes)
				}
				for _, at := range slotAts(k)[1:] {
					checkReapOne(t, k, at)
				}
			}
		}
	}
}

// Who is told comes to the end of Ready of its own priority, whatever the others have.
func TestReapToldByPriority(t *testing.T) {
	for _, object := range []int{128, 132, 140} {
		for prios := range 64 {
			k := kernQueues([7]int{1, 1, 1, 3, 3, 3, 0}, prios%2 == 0)
			place := 0
			for i := range k.Threads {
				if th := &k.Threads[i]; th.On == object {
					th.Prio = []int{0, 3, 7, 5}[prios>>(2*place)&3]
					place++
				}
			}
			got, gone := checkReapOne(t, k, slotOfObject(k, object))
			if place != 3 || gone < 0 || len(slices.Concat(got.Ready[0], got.Ready[3], got.Ready[5], got.Ready[7])) != 6 {
				t.Fatal(object, prios, place, gone)
			}
		}
	}
}

// slotOfObject is the slot of the original of the object at an address, of no region.
func slotOfObject(k impl.Kern, addr int) int {
	for _, s := range k.Slots {
		if s.Cap.Orig && s.Cap.Addr == addr && s.Cap.Kind != impl.CapUntyped {
			return s.At
		}
	}
	return 0
}

// As long as there are slots each ReapOne drops one; behind as many as there are slots nothing is left.
func TestReapEnds(t *testing.T) {
	r := rand.New(rand.NewSource(111))
	states := reapStates()[:13]
	for range 20 {
		states = append(states, anyKern(r, 60))
	}
	for i, k := range states {
		// From a slot by chance each time, from the first one, from the last one.
		for way := range 3 {
			left := k
			for n := len(k.Slots); n > 0; n-- {
				ats := slotAts(left)
				at := []int{oneOf(r, ats), ats[0], ats[len(ats)-1]}[way]
				gone := 0
				if left, gone = checkReapOne(t, left, at); gone < 0 || len(left.Slots) != n-1 {
					t.Fatalf("state %d: from %d: %d goes, %d slots are left of %d", i, at, gone, len(left.Slots), n)
				}
			}
			empty := impl.Kern{Bits: k.Bits, Ticks: k.Ticks}
			if !wantKernSame(left, empty) {
				t.Fatalf("state %d: left is %+v", i, left)
			}
			for _, at := range []int{64, 128, k.Bits, -1} {
				if got, gone := impl.ReapOne(left, at); gone != -1 || !wantKernSame(got, empty) {
					t.Fatalf("state %d: from nothing %d goes", i, gone)
				}
			}
		}
	}
}

// States with as many slots as there may be, with nodes that lie in each other as deep as they may.
func TestReapGreatest(t *testing.T) {
	r := rand.New(rand.NewSource(112))
	states := []impl.Kern{kernNested(299), kernDeep(12, 300), kernTight(12, 300, false)}
	for len(states) < 6 {
		if k := anyKern(r, 1500); len(k.Slots) == 300 {
			states = append(states, k)
		}
	}
	for i, k := range states {
		if len(k.Slots) != 300 || !wantKernOk(k) {
			t.Fatal("the state is not as it was meant", i)
		}
		for _, at := range fewSlots(k, 7) {
			checkReapOne(t, k, at)
			want, _ := wantReapRun(k, at, true, math.MaxInt)
			if got, done := impl.ReapRun(k, at, true, math.MaxInt); !done || !wantKernSame(got, want) {
				t.Fatalf("state %d: from %d: %v\n%+v", i, at, done, got)
			}
			want, _ = wantReapRun(k, at, false, 40)
			wantDone := wantReapLeft(want, at, false)
			if got, done := impl.ReapRun(k, at, false, 40); done != wantDone || !wantKernSame(got, want) {
				t.Fatalf("state %d: 40 from %d: %v\n%+v", i, at, done, got)
			}
		}
		left := k
		for _, at := range slotAts(k) {
			done := false
			if left, done = impl.ReapRun(left, at, true, 300); !done || placeOf(left, at) >= 0 {
				t.Fatalf("state %d: %d is left", i, at)
			}
		}
		if !wantKernSame(left, impl.Kern{Bits: k.Bits, Ticks: k.Ticks}) {
			t.Fatalf("state %d: left is %+v", i, left)
		}
	}
	got, done := impl.ReapRun(kernNested(299), 64, true, 299)
	if want := (impl.Kern{Bits: 12, Slots: []impl.TreeSlot{{At: 64, Cap: origOf(impl.CapNode, 128, 1)}}}); done || !wantKernSame(got, want) {
		t.Error(done, got)
	}
}

// A run of a and then of b is a run of a and b together.
func TestReapPromise21(t *testing.T) {
	r := rand.New(rand.NewSource(113))
	states := reapStates()[:13]
	for range 20 {
		states = append(states, anyKern(r, 50))
	}
	cuts := 0
	for _, k := range states {
		ats := append(fewSlots(k, 6), 64, 68, 132, 0, -1, 4096)
		for i, at := range ats {
			self := i%2 == 0
			if i > 3 {
				self = r.Intn(2) == 0
			}
			for range 4 {
				a, b := r.Intn(6), r.Intn(6)
				first, _ := impl.ReapRun(k, at, self, a)
				got, done := impl.ReapRun(first, at, self, b)
				whole, wholeDone := checkReapRun(t, k, at, self, a+b)
				if done != wholeDone || !wantKernSame(got, whole) {
					t.Fatalf("from %d, itself %v: %d and %d: %v, together %v\n%+v\nwant\n%+v\nof\n%+v", at, self, a, b, done, wholeDone, got, whole, k)
				}
				if a > 0 && b > 0 && len(first.Slots) < len(k.Slots) && len(whole.Slots) < len(first.Slots) {
					cuts++
				}
			}
		}
	}
	if cuts < 150 {
		t.Error("too few runs were cut", cuts)
	}
	for _, self := range []bool{false, true} {
		checkEachCut(t, kernHouse(), 68, self, 42)
	}
}

// checkEachCut cuts one run, which takes a known number of slots with the slot itself, at each of them.
func checkEachCut(t *testing.T, k impl.Kern, at int, self bool, slots int) {
	t.Helper()
	ends := func(n int) bool { return n >= slots || n == slots-1 && !self }
	var wholes []impl.Kern
	for n := range slots + 3 {
		whole, done := checkReapRun(t, k, at, self, n)
		if done != ends(n) {
			t.Fatalf("itself %v, %d slots: %v", self, n, done)
		}
		wholes = append(wholes, whole)
	}
	for a, first := range wholes {
		for b := 0; a+b < len(wholes); b += 1 + a%3 {
			if got, done := impl.ReapRun(first, at, self, b); done != ends(a+b) || !wantKernSame(got, wholes[a+b]) {
				t.Fatalf("itself %v: %d and %d: %v\n%+v\nwant\n%+v", self, a, b, done, got, wholes[a+b])
			}
		}
	}
}

// How many slots a run takes: none below 1, all that there are where there are no more.
func TestReapNumbers(t *testing.T) {
	for _, k := range []impl.Kern{kernHouse(), kernFull(), kernNested(5), kernRegions()} {
		for _, at := range []int{64, 68, 112, 128, 72, 0, -1} {
			for _, self := range []bool{false, true} {
				for _, n := range append([]int{-4, -3, -2, -1, 0, 1, 2, 3, 4, 41, 42, 43, 300, 301}, farInts...) {
					got, _ := checkReapRun(t, k, at, self, n)
					if n <= 0 && !wantKernSame(got, k) {
						t.Fatal(at, self, n, got)
					}
					if n > 0 && n < 4 && len(k.Slots)-len(got.Slots) > n {
						t.Fatal(at, self, n, len(got.Slots))
					}
				}
			}
		}
	}
}

// The slot itself stays, or goes last; what it came of stays.
func TestReapPromise22(t *testing.T) {
	r := rand.New(rand.NewSource(114))
	states := reapStates()
	for range 30 {
		states = append(states, anyKern(r, 60))
	}
	for _, k := range states {
		for _, at := range fewSlots(k, 25) {
			for _, n := range []int{0, 1 + r.Intn(6), math.MaxInt} {
				without, done := checkReapRun(t, k, at, false, n)
				if i := placeOf(without, at); i < 0 || n == math.MaxInt && (!done || !bareOf(without.Slots, i)) {
					t.Fatalf("from %d, not itself, %d slots: %v\n%+v\nof\n%+v", at, n, done, without, k)
				}
				with, done := checkReapRun(t, k, at, true, n)
				if done != (placeOf(with, at) < 0) || n == math.MaxInt && !done {
					t.Fatalf("from %d, itself, %d slots: %v\n%+v\nof\n%+v", at, n, done, with, k)
				}
				// What goes without it goes first with it too.
				if rest, _ := impl.ReapRun(without, at, true, math.MaxInt); n == math.MaxInt && !wantKernSame(rest, with) {
					t.Fatalf("from %d: first without it, then with it\n%+v\nwant\n%+v", at, rest, with)
				}
			}
		}
	}
}

// Whether anything is left: at each address there is, and at such as are none.
func TestReapLeft(t *testing.T) {
	for _, k := range reapStates() {
		for _, at := range kernAsked(k) {
			for _, self := range []bool{false, true} {
				if left := impl.ReapLeft(k, at, self); left != wantReapLeft(k, at, self) {
					t.Fatalf("from %d, itself %v: %v\n%+v", at, self, left, k)
				}
			}
		}
	}
	k := kernHouse()
	for _, c := range []struct {
		at      int
		without bool
		with    bool
	}{
		{64, false, false}, {68, false, false}, {172, false, false}, {176, true, false}, {544, true, false}, {832, true, false}, {868, true, false}, {108, true, true}, {208, true, true},
		{512, true, false}, {513, true, true}, {516, false, false}, {580, true, false}, {0, true, true}, {-1, true, true}, {5000, true, true}, {math.MinInt, true, true}, {math.MaxInt, true, true},
	} {
		if without, with := impl.ReapLeft(k, c.at, false), impl.ReapLeft(k, c.at, true); without != c.without || with != c.with {
			t.Error(c, without, with)
		}
	}
}

// checkClean asks promise 23 of a region, when all that came of it is taken back.
func checkClean(t *testing.T, k impl.Kern, at int) int {
	t.Helper()
	got, done := impl.ReapRun(k, at, false, math.MaxInt)
	region, held := impl.KernCap(got, at)
	if !done || !held || region != slotOf(&k, at).Cap {
		t.Fatalf("from %d: %v, and the region is %v\n%+v", at, done, region, k)
	}
	end := region.Addr + wordsOf(region)
	for addr, word := range impl.LayMake(got)[region.Addr:end] {
		if word != 0 {
			t.Fatalf("from %d: word %d is %d\n%+v\nof\n%+v", at, region.Addr+addr, word, got, k)
		}
	}
	made := 0
	for _, shape := range allShapes() {
		shape.from, shape.to = at, append(freeSlots(got), 0)[0]
		begin := alignUp(region.Addr, sizeOfNew(shape.kind, shape.bits))
		next, code := impl.MakeDo(got, shape.from, shape.kind, shape.bits, shape.to)
		if code != impl.CodeOk {
			if begin+sizeOfNew(shape.kind, shape.bits) <= end && slotOfNode(got, shape.to) && slotOf(&got, at).Depth < 11 && len(got.Slots) < 299 {
				t.Fatalf("of %d nothing is made: %d\n%+v", at, code, got)
			}
			continue
		}
		if c, _ := impl.KernCap(next, shape.to); c.Addr != begin || wordsOf(c) != sizeOfNew(shape.kind, shape.bits) {
			t.Fatalf("of %d is made %v, at %d, want %d", at, c, c.Addr, begin)
		}
		made++
	}
	return made
}

func TestReapPromise23(t *testing.T) {
	r := rand.New(rand.NewSource(115))
	states := reapStates()
	for range 60 {
		states = append(states, anyKern(r, 80))
	}
	made, regions := 0, 0
	for _, k := range states {
		for _, at := range regionSlots(k) {
			made += checkClean(t, k, at)
			regions++
		}
	}
	if made < 300 || regions < 100 {
		t.Error("the states are not as they were meant", made, regions)
	}
	// The words that were there ahead of it, of each kind.
	k := kernHouse()
	used := 0
	for _, word := range impl.LayMake(k)[512:928] {
		if word != 0 {
			used++
		}
	}
	if used < 150 || checkClean(t, k, 68) == 0 || checkClean(t, k, 528) == 0 {
		t.Error("the house is not as it was meant", used)
	}
}

// madeOf is what is left when all that is asked for is made, one behind the other, as far as it can be.
func madeOf(k impl.Kern, calls []makeCall) impl.Kern {
	for _, c := range calls {
		k, _ = c.do(k)
	}
	return k
}

// What is made of a region and taken back can be made of it anew, the same as at first, again and again.
func TestReapMadeAnew(t *testing.T) {
	r := rand.New(rand.NewSource(116))
	for i := range 60 {
		k := kernYard()
		at := []int{132, 136, 164}[i%3]
		for range 3 {
			var calls []makeCall
			for range 8 {
				c := anyMake(r, k)
				c.from = at
				calls = append(calls, c)
			}
			full := madeOf(k, calls)
			back, done := checkReapRun(t, full, at, false, 100)
			if free := slotOf(&full, at).Cap.Free; !done || slotOf(&back, at).Cap.Free != free {
				t.Fatal(done, free, back)
			}
			if again := madeOf(back, calls); !wantKernSame(again, full) {
				t.Fatalf("made anew of %d\n%+v\nwant\n%+v", at, again, full)
			}
			// Free says what was there; all else is as it was.
			slotOf(&back, at).Cap.Free = slotOf(&k, at).Cap.Free
			if !wantKernSame(back, k) {
				t.Fatalf("taken back of %d\n%+v\nwant\n%+v", at, back, k)
			}
			k, _ = impl.ReapRun(full, at, false, 100)
		}
	}
}

// From the beginning of a plan: each slot is taken back with all that came of it, and nobody but those of it is touched.
func TestReapFromTheBeginning(t *testing.T) {
	r := rand.New(rand.NewSource(117))
	for range 25 {
		k, ok := impl.BootMake(okPlan(r))
		if !ok {
			t.Fatal("no state")
		}
		for _, at := range fewSlots(k, 12) {
			checkReapOne(t, k, at)
			checkReapRun(t, k, at, r.Intn(2) == 0, r.Intn(9))
			checkReapRun(t, k, at, true, math.MaxInt)
		}
		for _, at := range regionSlots(k) {
			checkClean(t, k, at)
		}
		for len(k.Slots) > 0 {
			k, _ = checkReapOne(t, k, oneOf(r, slotAts(k)))
		}
	}
}

// The thread that runs takes itself back, and its domain: then the next one runs, or nobody.
func TestReapItself(t *testing.T) {
	k, _ := impl.BootMake(impl.BootPlan{Bits: 10, Doms: []impl.BootDom{{Prio: 3, Bits: 5}, {Prio: 3, Bits: 5}, {Prio: 1, Bits: 5}}})
	for _, want := range []int{0, 1, 2} {
		cur := impl.KernCur(k)
		if cur != k.Threads[0].At {
			t.Fatal(want, cur)
		}
		done := false
		k, done = checkReapRun(t, k, slotOfObject(k, cur), true, 9)
		if _, there := impl.KernThreadAt(k, cur); !done || there || len(k.Threads) != 2-want {
			t.Fatal(want, done, there, k)
		}
	}
	if impl.KernCur(k) != 0 || len(k.Ready[3]) != 0 || len(k.Ready[1]) != 0 {
		t.Error(k.Ready)
	}
}

// Each address in and around memory, and far ones.
func TestReapEachAddress(t *testing.T) {
	k := kernHouse()
	for at := -9; at <= 4105; at++ {
		if placeOf(k, at) >= 0 {
			checkReapOne(t, k, at)
			continue
		}
		// Behind its memory the state has nothing: an address of each residue is enough.
		if at > 1030 && at%13 > 0 && at < 4090 {
			continue
		}
		self, n := at%2 == 0, at%5
		if got, gone := impl.ReapOne(k, at); gone != -1 || !wantKernSame(got, k) {
			t.Fatal(at, gone, got)
		}
		if got, done := impl.ReapRun(k, at, self, n); !done || !wantKernSame(got, k) || !impl.ReapLeft(k, at, self) {
			t.Fatal(at, self, n, done, got)
		}
	}
	for _, far := range farInts {
		for _, at := range []int{far, far + 64, far + 68, far - 68} {
			checkReapOne(t, k, at)
			checkReapRun(t, k, at, true, at)
			checkReapRun(t, k, at, false, at)
		}
	}
}

// reapAsked is addresses to take back from in kernHouse.
func reapAsked() []int {
	return []int{64, 68, 128, 512, 552, 516, 520, 132, 136, 388, 148, 528, 868, 168, 72, 80, 92, 88, 536, 180, 208, 0, -1, 1000, math.MinInt, math.MaxInt}
}

func TestReapNotOk(t *testing.T) {
	r := rand.New(rand.NewSource(118))
	ats := reapAsked()
	refusedReap(t, "the zero state", impl.Kern{}, ats)
	for i := range 200 {
		k := wildKern(r)
		if i%3 == 0 {
			k = turned(r, kernHouse(), 2)
		}
		if !wantKernOk(k) {
			refusedReap(t, fmt.Sprintf("%+v", k), k, append(kernAsked(k)[:9], ats[i%len(ats)]))
		}
	}
	// A state may fail in what taking back does not come by, in what it would take away, and in what it would mend.
	changes := []func(k *impl.Kern){
		func(k *impl.Kern) { k.Ticks = -1 },
		func(k *impl.Kern) { k.Ticks = impl.KernMaxTicks + 1 },
		func(k *impl.Kern) { k.Bits = 8 },
		func(k *impl.Kern) { k.Bits = 9 },
		func(k *impl.Kern) { k.Bits = 13 },
		func(k *impl.Kern) { k.Ready[5] = nil },
		func(k *impl.Kern) { k.Ready[3] = []int{256, 576, 256} },
		func(k *impl.Kern) { k.Ready[3] = []int{256, 576, 640} },
		func(k *impl.Kern) { threadOf(k, 896).Slice = 0 },
		func(k *impl.Kern) { threadOf(k, 640).State = impl.KernIdle },
		func(k *impl.Kern) { threadOf(k, 800).State = impl.KernCalls },
		func(k *impl.Kern) { threadOf(k, 800).Pend = impl.KernRevokes },
		func(k *impl.Kern) { threadOf(k, 704).On = 740 },
		func(k *impl.Kern) { k.Frames[1].Data = k.Frames[1].Data[:7] },
		func(k *impl.Kern) { slices.Reverse(k.Ends) },
		func(k *impl.Kern) { k.Ends[1].Kind = 1 },
		func(k *impl.Kern) { k.Ends[3].Kind = 1 },
		func(k *impl.Kern) { k.Ends = append(k.Ends, impl.KernEnd{At: 900}) },
		func(k *impl.Kern) { k.Notes = k.Notes[:2] },
		func(k *impl.Kern) { k.Notes[1].Word = 1 },
		func(k *impl.Kern) { slotOf(k, 180).Cap.Orig = true },
		func(k *impl.Kern) { slotOf(k, 180).Cap.Badge = 65536 },
		func(k *impl.Kern) { slotOf(k, 180).At = 182 },
		func(k *impl.Kern) { slotOf(k, 180).At = 1004 },
		func(k *impl.Kern) { slotOf(k, 180).At = 184 },
		func(k *impl.Kern) { slotOf(k, 184).Cap.Rights = 7 },
		func(k *impl.Kern) { slotOf(k, 184).Depth = 4 },
		func(k *impl.Kern) { slotOf(k, 128).At = 540; cutSlot(k, 540) },
		func(k *impl.Kern) { slotOf(k, 512).At, slotOf(k, 544).At = 544, 512 },
		func(k *impl.Kern) { slotOf(k, 388).At = 208 },
		func(k *impl.Kern) { slotOf(k, 388).At = 804; threadOf(k, 640).State = 0 },
	}
	for i, change := range changes {
		k := kernHouse()
		change(&k)
		if wantKernOk(k) {
			t.Error("ok", i)
		}
		refusedReap(t, fmt.Sprint("change ", i), k, ats)
	}
}

// Changes of a state: of what is not ok there is nothing; of what is ok is taken back as it is then.
func TestReapEachChange(t *testing.T) {
	ats := reapAsked()
	oks, others := 0, 0
	eachChange(kernHouse(), []int{0, 1, 2, 3, 5, 64, 128, 256, 320, 560, 576, 1024, math.MaxInt}, func(path string, k impl.Kern) {
		if !wantKernOk(k) {
			others++
			refusedReap(t, path, k, []int{ats[others%len(ats)]})
			return
		}
		oks++
		checkReapOne(t, k, ats[oks%len(ats)])
		checkReapRun(t, k, ats[(oks+7)%len(ats)], oks%2 == 0, oks%5)
	})
	if oks < 400 || others < 5000 {
		t.Error("the changes are not as they were meant", oks, others)
	}
}

// reapCall is one of the two that answer a state.
type reapCall struct {
	at   int
	one  bool
	self bool
	n    int
}

// do answers what is left, and the rest of the answer as a number.
func (c reapCall) do(k impl.Kern) (impl.Kern, int) {
	if c.one {
		return impl.ReapOne(k, c.at)
	}
	got, done := impl.ReapRun(k, c.at, c.self, c.n)
	if done {
		return got, 1
	}
	return got, 0
}

func (c reapCall) want(k impl.Kern) (impl.Kern, int) {
	if c.one {
		return wantReapOne(k, c.at)
	}
	got, done := wantReapRun(k, c.at, c.self, c.n)
	if done {
		return got, 1
	}
	return got, 0
}

// reapCalls is calls of a state from some addresses.
func reapCalls(ats []int) []reapCall {
	var calls []reapCall
	for i, at := range ats {
		calls = append(calls, reapCall{at: at, one: true}, reapCall{at: at, self: i%2 == 0, n: i % 4}, reapCall{at: at, self: i%3 == 0, n: math.MaxInt})
	}
	return calls
}

// reapRuns asks calls of states that are written out and made by chance.
func reapRuns(seed int64, states []impl.Kern, tell func(k impl.Kern, c reapCall)) {
	r := rand.New(rand.NewSource(seed))
	for range 15 {
		states = append(states, anyKern(r, 60))
	}
	for _, k := range states {
		for _, c := range reapCalls(append(fewSlots(k, 8), 68, 0, -1)) {
			tell(k, c)
		}
	}
}

// Nothing is written into an argument, or behind the ends of its lists, and what stands there counts for nothing.
func TestReapArgumentsStay(t *testing.T) {
	r := rand.New(rand.NewSource(119))
	states := append(reapStates(), impl.Kern{})
	for range 10 {
		states = append(states, turned(r, kernHouse(), 2), wildKern(r))
	}
	reapRuns(120, states, func(k impl.Kern, c reapCall) {
		a := sparedKern(k)
		whole := wholeKern(a)
		got, rest := c.do(a)
		want, wantRest := c.do(k)
		if rest != wantRest || !wantKernSame(got, want) {
			t.Fatalf("%+v: what stands behind the end of a list counts\n%+v", c, k)
		}
		left := impl.ReapLeft(a, c.at, c.self)
		if left != impl.ReapLeft(k, c.at, c.self) || !reflect.DeepEqual(wholeKern(a), whole) {
			t.Fatalf("%+v: an argument was written into\n%+v", c, k)
		}
	})
}

// Answers are new memory, with their spare room, also where nothing goes: they share none with the argument, and no two of their lists share any.
func TestReapAnswersStay(t *testing.T) {
	reapRuns(121, reapStates(), func(k impl.Kern, c reapCall) {
		a := sparedKern(k)
		got, _ := c.do(a)
		spans := append(memoryOf(reflect.ValueOf(&got).Elem()), memoryOf(reflect.ValueOf(&a).Elem())...)
		slices.SortFunc(spans, func(a [2]uintptr, b [2]uintptr) int { return slices.Compare(a[:], b[:]) })
		for i := 1; i < len(spans); i++ {
			if spans[i][0] < spans[i-1][1] {
				t.Fatalf("%+v: lists share memory\n%+v", c, k)
			}
		}
	})
}

// An answer stays what it was, whatever is written into the argument, and the other way around.
func TestReapAnswersAreOwn(t *testing.T) {
	for _, c := range reapCalls(reapAsked()) {
		k := kernHouse()
		want, _ := c.want(k)
		got, _ := c.do(k)
		eachLeaf(reflect.ValueOf(&k).Elem(), "", func(path string, leaf reflect.Value) { leaf.SetZero() })
		if !wantKernSame(got, want) {
			t.Fatalf("%+v: an answer changed with its argument\n%+v", c, got)
		}
		k = kernHouse()
		got, _ = c.do(k)
		eachLeaf(reflect.ValueOf(&got).Elem(), "", func(path string, leaf reflect.Value) { leaf.SetZero() })
		if !wantKernSame(k, kernHouse()) {
			t.Fatalf("%+v: an argument changed with its answer\n%+v", c, k)
		}
	}
}

// One question has one answer, however often it is asked, by however many at once, and whatever was asked in between.
func TestReapKeepsNothing(t *testing.T) {
	r := rand.New(rand.NewSource(122))
	states := []impl.Kern{kernHouse(), anyKern(r, 60), kernFull(), {}}
	var askers sync.WaitGroup
	for asker := range 8 {
		askers.Go(func() {
			for i := range 8 {
				k := states[(asker+i)%len(states)]
				for _, c := range reapCalls(reapAsked()) {
					want, wantRest := impl.Kern{}, 0
					if len(k.Slots) > 0 {
						want, wantRest = c.want(k)
					} else if c.one {
						wantRest = -1
					}
					if got, rest := c.do(k); rest != wantRest || !wantKernSame(got, want) {
						t.Errorf("%+v: %d\n%+v", c, rest, k)
						return
					}
				}
			}
		})
	}
	askers.Wait()
}

// Lists that are empty are as good as such that are not there.
func TestReapEmptyLists(t *testing.T) {
	k := kernOneNode(2)
	full := kernCopy(k)
	k.Threads, k.Ends, k.Notes, k.Frames = []impl.KernThread{}, make([]impl.KernEnd, 0, 3), []impl.KernNote{}, make([]impl.KernFrame, 0, 1)
	for prio := range k.Ready {
		k.Ready[prio] = make([]int, 0, 2)
	}
	for _, c := range reapCalls(slotAts(k)) {
		got, rest := c.do(k)
		want, wantRest := c.want(k)
		if other, otherRest := c.do(full); rest != otherRest || rest != wantRest || !wantKernSame(got, other) || !wantKernSame(got, want) {
			t.Error(c, rest)
		}
	}
}

// On words, and among other calls: what is left is a state whose words read back, and in which things are made, handed on and taken back again.
func TestReapAmongOthers(t *testing.T) {
	r := rand.New(rand.NewSource(123))
	for range 40 {
		k := anyKern(r, 60)
		for range 8 {
			at, self, n := anyReap(r, k)
			got, _ := checkReapRun(t, k, at, self, n)
			if back, ok := impl.LayRead(impl.LayMake(got)); !ok || !wantKernSame(back, got) {
				t.Fatalf("not read back\n%+v", got)
			}
			k, _ = checkReapOne(t, got, oneOf(r, kernAsked(got)))
			k, _ = checkMake(t, k, anyMake(r, k))
			k, _ = checkHand(t, k, anyHand(r, k))
			calls := someCalls(r, k)
			k = checkReady(t, k, calls[r.Intn(len(calls))])
		}
	}
}
