package tests

import (
	"fmt"
	"math"
	"math/rand"
	"reflect"
	"runtime"
	"slices"
	"sync"
	"testing"

	"loop.example/donjon/impl"
)

// checkStands asks whether each thread that is ready stands once in Ready, at its priority, and nobody else stands there.
func checkStands(t *testing.T, k impl.Kern) {
	t.Helper()
	for _, th := range k.Threads {
		for prio, list := range k.Ready {
			want := 0
			if th.State == impl.KernRuns && th.Prio == prio {
				want = 1
			}
			if got := times(list, th.At); got != want {
				t.Fatalf("%d stands %d times in Ready of %d\n%+v", th.At, got, prio, k)
			}
		}
	}
	for prio, list := range k.Ready {
		for _, at := range list {
			if !slices.Contains(threadsOf(k), at) {
				t.Fatalf("%d, which is no thread, stands in Ready of %d\n%+v", at, prio, k)
			}
		}
	}
}

// checkReady holds one of the four against the document, in a state that is ok, and asks promise 13 and the second half of promise 12; it answers what was left.
func checkReady(t *testing.T, k impl.Kern, call readyCall) impl.Kern {
	t.Helper()
	got, want := call.do(k), call.want(k)
	if !wantKernSame(got, want) {
		t.Fatalf("%s: got\n%+v\nwant\n%+v\nof\n%+v", call.name, got, want, k)
	}
	if !impl.KernOk(got) || !wantKernOk(got) {
		t.Fatalf("%s: what is left is not ok\n%+v", call.name, got)
	}
	checkStands(t, got)
	return got
}

// checkNothing asks for the one answer of a state that is not ok.
func checkNothing(t *testing.T, name string, k impl.Kern, calls []readyCall) {
	t.Helper()
	for _, call := range calls {
		if got := call.do(k); !wantKernSame(got, impl.Kern{}) {
			t.Fatalf("%s: %s: %+v", name, call.name, got)
		}
	}
}

func readyStates() []impl.Kern {
	return []impl.Kern{
		kernFull(), kernNested(5), kernRegions(), kernSmall(), kernSpaces(), {Bits: 9}, {Bits: 12, Ticks: 1000000},
		kernQueues([7]int{3, 3, 3, 3, 3, 3, 3}, false), kernQueues([7]int{2, 1, 0, 2, 1, 2, 1}, true), kernQueues([7]int{}, false),
		kernTurns(false), kernTurns(true, readyWith(7, 1, 2, 3, 4)...), kernTurns(false, append(readyWith(0, 1, 1), idleWith(0, 2), idleWith(7, 1))...),
	}
}

// The states that the tests begin with are ok.
func TestReadyStates(t *testing.T) {
	r := rand.New(rand.NewSource(80))
	states := append(readyStates(), anyTurns(r, readyMost), anyTurns(r, 7))
	for i, k := range states {
		if !checkKernOk(t, k) {
			t.Error("not ok", i)
		}
		checkStands(t, k)
	}
}

// readyCase is a call at a state, and what it changes there.
type readyCase struct {
	name   string
	call   readyCall
	change func(k *impl.Kern)
}

func checkReadyCases(t *testing.T, k impl.Kern, cases []readyCase) {
	t.Helper()
	for _, c := range cases {
		want := kernCopy(k)
		c.change(&want)
		if got := c.call.do(k); !wantKernSame(got, want) {
			t.Errorf("%s: got\n%+v\nwant\n%+v", c.name, got, want)
		}
		if own := c.call.want(k); !wantKernSame(own, want) {
			t.Errorf("%s: the test's own answer is\n%+v", c.name, own)
		}
		checkReady(t, k, c.call)
	}
}

func asItIs(k *impl.Kern) {}

// kernFull: 384 runs, with one tick left, ahead of 160, whose turn is whole.
func TestReadyWrittenOut(t *testing.T) {
	checkReadyCases(t, kernFull(), []readyCase{
		{"a tick that ends a turn", tickCall(), func(k *impl.Kern) {
			k.Ticks = 78
			threadOf(k, 384).Slice = 4
			k.Ready[3] = []int{160, 384}
		}},
		{"a yield", yieldCall(), func(k *impl.Kern) {
			threadOf(k, 384).Slice = 4
			k.Ready[3] = []int{160, 384}
		}},
		{"who does nothing", wakeCall(320), func(k *impl.Kern) {
			threadOf(k, 320).State = impl.KernRuns
			k.Ready[0] = []int{320}
		}},
		{"who runs", wakeCall(384), asItIs},
		{"who is ready", wakeCall(160), asItIs},
		{"who sends", wakeCall(192), asItIs},
		{"who waits", wakeCall(224), asItIs},
		{"who calls", wakeCall(256), asItIs},
		{"who listens", wakeCall(288), asItIs},
		{"who runs, its own priority", prioCall(384, 3), func(k *impl.Kern) { k.Ready[3] = []int{160, 384} }},
		{"who is last, its own priority", prioCall(160, 3), asItIs},
		{"who runs, a greater priority", prioCall(384, 7), func(k *impl.Kern) {
			threadOf(k, 384).Prio = 7
			k.Ready[3], k.Ready[7] = []int{160}, []int{384}
		}},
		{"who runs, a lesser priority", prioCall(384, 0), func(k *impl.Kern) {
			threadOf(k, 384).Prio = 0
			k.Ready[3], k.Ready[0] = []int{160}, []int{384}
		}},
		{"who is ready, a greater priority", prioCall(160, 4), func(k *impl.Kern) {
			threadOf(k, 160).Prio = 4
			k.Ready[3], k.Ready[4] = []int{384}, []int{160}
		}},
		{"who is ready, a lesser priority", prioCall(160, 2), func(k *impl.Kern) {
			threadOf(k, 160).Prio = 2
			k.Ready[3], k.Ready[2] = []int{384}, []int{160}
		}},
		{"who does nothing, a priority", prioCall(320, 3), func(k *impl.Kern) { threadOf(k, 320).Prio = 3 }},
		{"who sends, a priority", prioCall(192, 0), func(k *impl.Kern) { threadOf(k, 192).Prio = 0 }},
		{"who waits, a priority", prioCall(224, 3), func(k *impl.Kern) { threadOf(k, 224).Prio = 3 }},
		{"who calls, a priority", prioCall(256, 7), func(k *impl.Kern) { threadOf(k, 256).Prio = 7 }},
		{"who listens, a priority above its Max", prioCall(288, 2), func(k *impl.Kern) { threadOf(k, 288).Prio = 2 }},
		{"who listens, its own priority", prioCall(288, 1), asItIs},
		{"a priority below all", prioCall(384, -1), asItIs},
		{"a priority above all", prioCall(384, 8), asItIs},
		{"no thread", prioCall(352, 3), asItIs},
		{"no thread to wake", wakeCall(352), asItIs},
	})
}

// One tick, yield, wake and priority behind the other.
func TestReadyOneBehindTheOther(t *testing.T) {
	k := kernTurns(false, append(readyWith(3, 2, 4, 1), idleWith(3, 3), idleWith(6, 2))...)
	a, b, c, d, e := 640, 672, 704, 736, 768
	steps := []struct {
		call  readyCall
		cur   int
		left  int // of its turn
		ticks int
		ready map[int][]int
	}{
		{tickCall(), a, 1, 10, map[int][]int{3: {a, b, c}}},
		{tickCall(), b, 4, 11, map[int][]int{3: {b, c, a}}},
		{tickCall(), b, 3, 12, map[int][]int{3: {b, c, a}}},
		{yieldCall(), c, 1, 12, map[int][]int{3: {c, a, b}}},
		{wakeCall(d), c, 1, 12, map[int][]int{3: {c, a, b, d}}},
		{tickCall(), a, 4, 13, map[int][]int{3: {a, b, d, c}}},
		{wakeCall(e), e, 2, 13, map[int][]int{3: {a, b, d, c}, 6: {e}}},
		{tickCall(), e, 1, 14, map[int][]int{3: {a, b, d, c}, 6: {e}}},
		{tickCall(), e, 4, 15, map[int][]int{3: {a, b, d, c}, 6: {e}}},
		{yieldCall(), e, 4, 15, map[int][]int{3: {a, b, d, c}, 6: {e}}},
		{prioCall(b, 6), e, 4, 15, map[int][]int{3: {a, d, c}, 6: {e, b}}},
		{prioCall(e, 6), b, 4, 15, map[int][]int{3: {a, d, c}, 6: {b, e}}},
		{tickCall(), b, 3, 16, map[int][]int{3: {a, d, c}, 6: {b, e}}},
		{prioCall(b, 6), e, 4, 16, map[int][]int{3: {a, d, c}, 6: {e, b}}},
		{yieldCall(), b, 3, 16, map[int][]int{3: {a, d, c}, 6: {b, e}}},
		{prioCall(b, 3), e, 4, 16, map[int][]int{3: {a, d, c, b}, 6: {e}}},
		{prioCall(e, 2), a, 4, 16, map[int][]int{2: {e}, 3: {a, d, c, b}}},
		{prioCall(d, 3), a, 4, 16, map[int][]int{2: {e}, 3: {a, c, b, d}}},
		{wakeCall(d), a, 4, 16, map[int][]int{2: {e}, 3: {a, c, b, d}}},
		{prioCall(a, 0), c, 4, 16, map[int][]int{0: {a}, 2: {e}, 3: {c, b, d}}},
		{yieldCall(), b, 3, 16, map[int][]int{0: {a}, 2: {e}, 3: {b, d, c}}},
		{yieldCall(), d, 3, 16, map[int][]int{0: {a}, 2: {e}, 3: {d, c, b}}},
	}
	for i, s := range steps {
		k = checkReady(t, k, s.call)
		cur := impl.KernCur(k)
		if cur != s.cur || k.Ticks != s.ticks || threadOf(&k, cur).Slice != s.left {
			t.Fatalf("step %d: %d runs in %+v", i, cur, k)
		}
		for prio, list := range k.Ready {
			if !slices.Equal(list, s.ready[prio]) {
				t.Fatalf("step %d: %v", i, k.Ready)
			}
		}
	}
}

// Ticks end at KernMaxTicks; turns do not.
func TestReadyTicks(t *testing.T) {
	for _, ticks := range []int{0, 1, 77, 999998, 999999, 1000000} {
		want := min(ticks+1, 1000000)
		idle := kernTurns(false, idleWith(3, 1), idleWith(7, 4))
		for _, k := range []impl.Kern{{Bits: 9}, kernRegions(), idle, kernQueues([7]int{0, 0, 0, 2, 2, 2, 2}, false)} {
			k.Ticks = ticks
			checkReadyCases(t, k, []readyCase{{"nobody runs", tickCall(), func(k *impl.Kern) { k.Ticks = want }}})
		}
		for left := 1; left <= 4; left++ {
			threads := append(readyWith(5, left, 3, 1), readyWith(2, 2, 1)...)
			k := kernTurns(true, threads...)
			k.Ticks = ticks
			first := k.Ready[5][0]
			checkReadyCases(t, k, []readyCase{{fmt.Sprint("ticks ", ticks, " left ", left), tickCall(), func(k *impl.Kern) {
				k.Ticks = want
				threadOf(k, first).Slice = left - 1
				if left == 1 {
					threadOf(k, first).Slice = 4
					k.Ready[5] = []int{k.Ready[5][1], k.Ready[5][2], first}
				}
			}}})
		}
	}
}

// A turn that is over, of the one that runs alone, ahead of one and of many, with each number of ticks left, and each priority.
func TestReadyTurnOver(t *testing.T) {
	for prio := range 8 {
		for left := 1; left <= 4; left++ {
			for others := range 4 {
				var threads []impl.KernThread
				if prio > 0 {
					threads = append(threads, readyWith(prio-1, 1, 2)...)
				}
				threads = append(threads, readyWith(prio, append([]int{left}, 1, 4, 2)[:1+others]...)...)
				for _, turn := range []bool{false, true} {
					k := kernTurns(turn, threads...)
					list := k.Ready[prio]
					over := func(k *impl.Kern) {
						threadOf(k, list[0]).Slice = 4
						k.Ready[prio] = append(slices.Clone(list[1:]), list[0])
					}
					tick := func(k *impl.Kern) {
						k.Ticks++
						threadOf(k, list[0]).Slice--
						if left == 1 {
							over(k)
						}
					}
					name := fmt.Sprint("prio ", prio, " left ", left, " others ", others)
					checkReadyCases(t, k, []readyCase{{name, yieldCall(), over}, {name, tickCall(), tick}})
				}
			}
		}
	}
}

func TestReadyYieldNobody(t *testing.T) {
	states := []impl.Kern{{Bits: 9}, {Bits: 12, Ticks: 1000000}, kernNested(3), kernTurns(false, idleWith(0, 1), idleWith(7, 2)), kernQueues([7]int{0, 0, 0, 1, 2, 3, 1}, true)}
	for _, k := range states {
		checkReadyCases(t, k, []readyCase{{"nobody runs", yieldCall(), asItIs}})
	}
}

// A thread is woken behind those of its priority, whoever runs; its Slice and all else stay.
func TestReadyWake(t *testing.T) {
	for prio := range 8 {
		for left := 1; left <= 4; left++ {
			for others := range 4 {
				for _, rest := range [][]int{nil, {2}, {4, 1}} {
					threads := readyWith(prio, []int{3, 1, 4}[:others]...)
					threads = append(threads, idleWith(prio, left), idleWith(prio, 4))
					threads = append(threads, readyWith((prio+1)%8, rest...)...)
					turn := left%2 == 0
					k := kernTurns(turn, threads...)
					at := turnAt(turn, len(threads), others)
					checkReadyCases(t, k, []readyCase{{fmt.Sprint("prio ", prio, " left ", left, " others ", others), wakeCall(at), func(k *impl.Kern) {
						threadOf(k, at).State = impl.KernRuns
						k.Ready[prio] = append(k.Ready[prio], at)
					}}})
				}
			}
		}
	}
}

// Who was woken is ready, and is not woken again.
func TestReadyWakeTwice(t *testing.T) {
	k := kernTurns(false, append(readyWith(2, 4, 4), idleWith(2, 3))...)
	once := checkReady(t, k, wakeCall(704))
	if impl.KernSame(once, k) {
		t.Error("not woken")
	}
	checkReadyCases(t, once, []readyCase{{"again", wakeCall(704), asItIs}})
	again := checkReady(t, checkReady(t, once, yieldCall()), wakeCall(640))
	if !slices.Equal(again.Ready[2], []int{672, 704, 640}) {
		t.Error(again.Ready)
	}
}

// Threads that wait somewhere keep what they wait with, whoever wakes them.
func TestReadyWakeOthers(t *testing.T) {
	states := append(readyStates(), kernQueues([7]int{4, 4, 4, 4, 4, 4, 4}, true))
	for _, k := range states {
		for _, th := range k.Threads {
			if th.State != impl.KernIdle {
				checkReadyCases(t, k, []readyCase{{fmt.Sprint("state ", th.State), wakeCall(th.At), asItIs}})
			}
		}
	}
}

// readyNoThreads is addresses of kernFull that are of slots, nodes, ends, words of threads, or of nothing.
func readyNoThreads() []int {
	return append([]int{0, 1, 4, 63, 64, 68, 72, 124, 128, 132, 159, 161, 164, 168, 172, 188, 191, 193, 196, 321, 319, 328, 352, 356, 360, 364, 368, 383, 385, 416, 512, 528, 532, 1023, 1024, 4095, 4096, -160, -320, 320 + math.MinInt, 320 + 1<<32}, farInts...)
}

func TestReadyNoThread(t *testing.T) {
	for _, at := range readyNoThreads() {
		cases := []readyCase{{fmt.Sprint("wake ", at), wakeCall(at), asItIs}}
		for _, prio := range []int{0, 3, 7, -1, 8} {
			cases = append(cases, readyCase{fmt.Sprint("prio of ", at), prioCall(at, prio), asItIs})
		}
		checkReadyCases(t, kernFull(), cases)
		checkReadyCases(t, impl.Kern{Bits: 9}, cases)
	}
}

// Each priority that there is, and such that are none, for a thread of each state.
func TestReadyPrioEach(t *testing.T) {
	prios := append([]int{-2, -1, 0, 1, 2, 3, 4, 5, 6, 7, 8, 9, 10, 15, 16, 63, 64, 255, 256, 259, 3 + 1<<32, 3 + math.MinInt}, farInts...)
	full := kernFull()
	for _, th := range full.Threads {
		for _, prio := range prios {
			change := asItIs
			if prio >= 0 && prio <= 7 {
				change = func(k *impl.Kern) {
					threadOf(k, th.At).Prio = prio
					if th.State != impl.KernRuns {
						return
					}
					other := 160 + 384 - th.At
					k.Ready[3] = []int{other}
					k.Ready[prio] = append(k.Ready[prio], th.At)
				}
			}
			checkReadyCases(t, full, []readyCase{{fmt.Sprint("prio ", prio, " of ", th.At), prioCall(th.At, prio), change}})
		}
	}
}

// Each thread of a queue of one to four, ahead, in the middle and behind, leaves its place and comes to the end of each other queue, and of its own.
func TestReadyPrioPlaces(t *testing.T) {
	for size := 1; size <= 4; size++ {
		for place := range size {
			for other := range 4 {
				threads := append(readyWith(4, []int{1, 2, 3, 4}[:size]...), readyWith(6, []int{4, 3, 2}[:other]...)...)
				threads = append(threads, readyWith(1, 2)...)
				for _, turn := range []bool{false, true} {
					k := kernTurns(turn, threads...)
					at := turnAt(turn, len(threads), place)
					var cases []readyCase
					for prio := range 8 {
						cases = append(cases, readyCase{fmt.Sprint(place, " of ", size, " to ", prio), prioCall(at, prio), func(k *impl.Kern) {
							threadOf(k, at).Prio = prio
							k.Ready[4] = slices.Delete(slices.Clone(k.Ready[4]), place, place+1)
							k.Ready[prio] = append(k.Ready[prio], at)
						}})
					}
					checkReadyCases(t, k, cases)
				}
			}
		}
	}
}

// A priority that is given anew does not end the turn: what is left of it stays.
func TestReadyPrioKeepsTheSlice(t *testing.T) {
	for left := 1; left <= 4; left++ {
		k := kernTurns(false, readyWith(3, left, 4, 4)...)
		k = checkReady(t, k, prioCall(640, 3))
		if !slices.Equal(k.Ready[3], []int{672, 704, 640}) || k.Threads[0].Slice != left || k.Ticks != 9 {
			t.Error(left, k.Ready, k.Threads)
		}
	}
}

// checkTurns asks promise 12: with nothing but ticks those that are ready with the greatest priority run one behind the other, each as long as its turn is, twice around; nobody else runs.
func checkTurns(t *testing.T, k impl.Kern) {
	t.Helper()
	var list []int
	for _, ready := range k.Ready {
		if len(ready) > 0 {
			list = slices.Clone(ready)
		}
	}
	var runs []int
	for _, at := range list {
		runs = append(runs, slices.Repeat([]int{at}, threadOf(&k, at).Slice)...)
	}
	for _, at := range list {
		runs = append(runs, slices.Repeat([]int{at}, impl.KernMaxSlice)...)
	}
	now := k
	for i, at := range runs {
		if cur := impl.KernCur(now); cur != at {
			t.Fatalf("behind %d ticks %d runs, not %d\n%+v", i, cur, at, k)
		}
		checkStands(t, now)
		for prio := range now.Ready {
			// Whose turn it is not, and who has no turn at all, stands as it stood.
			if prio != threadOf(&k, at).Prio && !slices.Equal(now.Ready[prio], k.Ready[prio]) {
				t.Fatalf("behind %d ticks: %v\n%+v", i, now.Ready, k)
			}
		}
		now = impl.ReadyTick(now)
		if !impl.KernOk(now) || now.Ticks != min(k.Ticks+i+1, impl.KernMaxTicks) {
			t.Fatalf("behind %d ticks\n%+v", i+1, now)
		}
	}
	// Twice around all stand as they stood, with whole turns.
	want := kernCopy(k)
	want.Ticks = now.Ticks
	for _, at := range list {
		threadOf(&want, at).Slice = 4
	}
	if !wantKernSame(now, want) {
		t.Fatalf("got\n%+v\nwant\n%+v", now, want)
	}
}

// allSlices hands out each list of so many slices.
func allSlices(size int, tell func(left []int)) {
	left := slices.Repeat([]int{1}, size)
	for {
		tell(left)
		i := 0
		for i < size && left[i] == 4 {
			left[i] = 1
			i++
		}
		if i == size {
			return
		}
		left[i]++
	}
}

func TestReadyPromise12(t *testing.T) {
	rests := [][]impl.KernThread{nil, readyWith(1, 1), append(readyWith(2, 4, 1), readyWith(0, 2, 3)...), {idleWith(7, 1), idleWith(4, 2)}}
	for size := 1; size <= 3; size++ {
		allSlices(size, func(left []int) {
			for i, rest := range rests {
				for _, prio := range []int{3, 4, 7} {
					checkTurns(t, kernTurns(i%2 == 0, append(readyWith(prio, left...), rest...)...))
				}
			}
		})
	}
	allSlices(4, func(left []int) {
		checkTurns(t, kernTurns(left[0] == 1, append(readyWith(0, left...), idleWith(0, 4))...))
	})
}

func TestReadyPromise12Any(t *testing.T) {
	r := rand.New(rand.NewSource(81))
	for range 150 {
		checkTurns(t, anyTurns(r, 1+r.Intn(10)))
		k := anyKern(r, 30+r.Intn(60))
		checkTurns(t, k)
	}
	for range 3 {
		checkTurns(t, anyTurns(r, 30))
	}
	many := kernTurns(true, readyWith(5, slices.Repeat([]int{1, 2, 4}, readyMost/3)...)...)
	checkTurns(t, many)
	for _, k := range readyStates() {
		checkTurns(t, k)
	}
}

// With whole and begun turns each runs within as many ticks as are left of the turns of those ahead of it, and not sooner; a thread that is woken or gets the priority comes behind them.
func TestReadyPromise12Waits(t *testing.T) {
	r := rand.New(rand.NewSource(82))
	for range 200 {
		k := anyTurns(r, 2+r.Intn(8))
		idle := slices.IndexFunc(k.Threads, func(th impl.KernThread) bool { return th.State == impl.KernIdle })
		cur := impl.KernCur(k)
		if cur == 0 || idle < 0 {
			continue
		}
		top, at := threadOf(&k, cur).Prio, k.Threads[idle].At
		k = checkReady(t, checkReady(t, k, prioCall(at, top)), wakeCall(at))
		ahead := 0
		for _, other := range k.Ready[top] {
			if other != at {
				ahead += threadOf(&k, other).Slice
			}
		}
		for i := range ahead {
			if impl.KernCur(k) == at {
				t.Fatalf("it runs behind %d ticks of %d\n%+v", i, ahead, k)
			}
			k = impl.ReadyTick(k)
		}
		if impl.KernCur(k) != at {
			t.Fatalf("it does not run behind %d ticks\n%+v", ahead, k)
		}
	}
}

// At KernMaxTicks turns go on.
func TestReadyPromise12AtTheEnd(t *testing.T) {
	for _, ticks := range []int{999990, 999998, 999999, 1000000} {
		k := kernTurns(false, append(readyWith(6, 2, 4, 1), readyWith(5, 4)...)...)
		k.Ticks = ticks
		checkTurns(t, k)
	}
}

// readyNames is who is ready, in no order.
func readyNames(k impl.Kern) []int {
	var list []int
	for _, ready := range k.Ready {
		list = append(list, ready...)
	}
	slices.Sort(list)
	return list
}

// Nobody is lost or doubled: who was ready still is, and a wake alone adds one.
func TestReadyNobodyLost(t *testing.T) {
	r := rand.New(rand.NewSource(83))
	woken := 0
	for range 60 {
		k := anyTurns(r, r.Intn(12))
		for _, call := range someCalls(r, k) {
			want := readyNames(k)
			got := readyNames(call.do(k))
			if call.name == "ReadyWake" && len(got) > len(want) {
				woken++
				got = slices.DeleteFunc(got, func(at int) bool { return threadOf(&k, at).State == impl.KernIdle })
			}
			if !slices.Equal(got, want) {
				t.Fatalf("%s: %v, %v\n%+v", call.name, got, want, k)
			}
		}
	}
	if woken < 30 {
		t.Error("too few were woken", woken)
	}
}

func TestReadyPromise13(t *testing.T) {
	r := rand.New(rand.NewSource(84))
	states := readyStates()
	for range 150 {
		states = append(states, anyKern(r, r.Intn(70)), anyTurns(r, r.Intn(9)))
	}
	for range 15 {
		k, _ := impl.BootMake(okPlan(r))
		states = append(states, k)
	}
	for _, k := range states {
		for _, call := range someCalls(r, k) {
			checkReady(t, k, call)
		}
	}
}

// Large states: all slots, and as many threads as there is room for.
func TestReadyLarge(t *testing.T) {
	r := rand.New(rand.NewSource(85))
	for i := range 4 {
		k := anyKern(r, 1500)
		if i%2 == 0 {
			k = anyTurns(r, readyMost)
		}
		checkReady(t, k, tickCall())
		checkReady(t, k, yieldCall())
		for range 8 {
			at := k.Threads[r.Intn(len(k.Threads))].At
			checkReady(t, k, wakeCall(at))
			checkReady(t, k, prioCall(at, r.Intn(8)))
		}
	}
}

// Calls one behind the other, by chance, each on what the one ahead of it left.
func TestReadySequences(t *testing.T) {
	r := rand.New(rand.NewSource(86))
	for i := range 40 {
		k := anyTurns(r, 1+r.Intn(10))
		if i%2 == 0 {
			k = anyKern(r, 60)
		}
		for range 60 {
			calls := someCalls(r, k)
			if r.Intn(2) == 0 {
				calls = calls[:2]
			}
			k = checkReady(t, k, calls[r.Intn(len(calls))])
		}
	}
}

// Changes of a state: of what is not ok there is nothing; what is ok has its turns as it is then.
func TestReadyEachChange(t *testing.T) {
	calls := []readyCall{tickCall(), yieldCall(), wakeCall(320), wakeCall(160), prioCall(160, 5), prioCall(384, 3), prioCall(320, 0), wakeCall(0), prioCall(0, 9)}
	oks, others := 0, 0
	eachChange(kernFull(), []int{0, 1, 2, 3, 4, 5, 7, 8, 160, 320, 352, 384, 999999, 1000000, math.MaxInt}, func(path string, k impl.Kern) {
		if !wantKernOk(k) {
			others++
			checkNothing(t, path, k, []readyCall{calls[others%len(calls)], calls[(others+1)%len(calls)]})
			return
		}
		oks++
		for i := range 4 {
			call := calls[(oks+i)%len(calls)]
			if got := call.do(k); !wantKernSame(got, call.want(k)) || !impl.KernOk(got) {
				t.Fatalf("%s: %s\n%+v", path, call.name, got)
			}
		}
	})
	if oks < 500 || others < 4000 {
		t.Error("the changes are not as they were meant", oks, others)
	}
}

func TestReadyNotOk(t *testing.T) {
	r := rand.New(rand.NewSource(87))
	calls := []readyCall{tickCall(), yieldCall()}
	for _, at := range []int{0, 160, 320, 384, 640, -1, math.MinInt, math.MaxInt} {
		calls = append(calls, wakeCall(at), prioCall(at, 3), prioCall(at, -1), prioCall(at, math.MaxInt))
	}
	checkNothing(t, "the zero state", impl.Kern{}, calls)
	for i := range 300 {
		k := wildKern(r)
		if i%3 == 0 {
			k = turned(r, kernFull(), 2)
		}
		if !wantKernOk(k) {
			checkNothing(t, fmt.Sprintf("%+v", k), k, calls)
		}
	}
	// A state may fail in what a turn does not come by, and in what it would mend.
	changes := []func(k *impl.Kern){
		func(k *impl.Kern) { k.Ticks = -1 },
		func(k *impl.Kern) { k.Ticks = impl.KernMaxTicks + 1 },
		func(k *impl.Kern) { k.Bits = 8 },
		func(k *impl.Kern) { k.Frames[0].Data = k.Frames[0].Data[:3] },
		func(k *impl.Kern) { k.Notes[0].Word = 1 },
		func(k *impl.Kern) { k.Ends[2].Kind = 1 },
		func(k *impl.Kern) { threadOf(k, 384).Slice = 0 },
		func(k *impl.Kern) { threadOf(k, 384).Slice = 5 },
		func(k *impl.Kern) { threadOf(k, 160).Slice = math.MinInt },
		func(k *impl.Kern) { threadOf(k, 384).Prio = 8 },
		func(k *impl.Kern) { threadOf(k, 320).Prio = -1 },
		func(k *impl.Kern) { threadOf(k, 320).Xfer = 1 },
		func(k *impl.Kern) { threadOf(k, 320).On = 352 },
		func(k *impl.Kern) { threadOf(k, 320).State = impl.KernRuns },
		func(k *impl.Kern) { k.Ready[0] = []int{320} },
		func(k *impl.Kern) { k.Ready[3] = []int{384} },
		func(k *impl.Kern) { k.Ready[3] = []int{384, 160, 384} },
		func(k *impl.Kern) { k.Ready[4] = []int{384} },
		func(k *impl.Kern) { k.Ready[3], k.Ready[4] = []int{384}, []int{160} },
		func(k *impl.Kern) { k.Ready[7] = []int{-1} },
		func(k *impl.Kern) { k.Threads = nil },
		func(k *impl.Kern) { slices.Reverse(k.Threads) },
		func(k *impl.Kern) { slotOf(k, 112).Cap.Free = 0 },
	}
	for i, change := range changes {
		k := kernFull()
		change(&k)
		if wantKernOk(k) {
			t.Error("ok", i)
		}
		checkNothing(t, fmt.Sprint("change ", i), k, calls)
	}
}

// Nothing is written into an argument, or behind the ends of its lists, and what stands there counts for nothing.
func TestReadyArgumentsStay(t *testing.T) {
	r := rand.New(rand.NewSource(88))
	states := append(readyStates(), impl.Kern{})
	for range 25 {
		k := anyKern(r, 40)
		states = append(states, k, anyTurns(r, 6), turned(r, k, 2), wildKern(r))
	}
	for _, k := range states {
		a := sparedKern(k)
		whole := wholeKern(a)
		for _, call := range someCalls(r, k) {
			if got := call.do(a); !wantKernSame(got, call.do(k)) {
				t.Fatalf("%s: what stands behind the end of a list counts\n%+v", call.name, k)
			}
			if !reflect.DeepEqual(wholeKern(a), whole) {
				t.Fatalf("%s: an argument was written into\n%+v", call.name, k)
			}
		}
	}
}

// Answers are new memory, with their spare room, also where nothing happens: they share none with the argument, and no two of their lists share any.
func TestReadyAnswersStay(t *testing.T) {
	r := rand.New(rand.NewSource(89))
	states := readyStates()
	for range 12 {
		states = append(states, anyKern(r, 50), anyTurns(r, 8))
	}
	for _, k := range states {
		a := sparedKern(k)
		for _, call := range someCalls(r, k) {
			got := call.do(a)
			spans := append(memoryOf(reflect.ValueOf(&got).Elem()), memoryOf(reflect.ValueOf(&a).Elem())...)
			slices.SortFunc(spans, func(a [2]uintptr, b [2]uintptr) int { return slices.Compare(a[:], b[:]) })
			for i := 1; i < len(spans); i++ {
				if spans[i][0] < spans[i-1][1] {
					t.Fatalf("%s: lists share memory\n%+v", call.name, k)
				}
			}
		}
	}
}

// An answer stays what it was, whatever is written into the argument, and the other way around.
func TestReadyAnswersAreOwn(t *testing.T) {
	for _, call := range []readyCall{tickCall(), yieldCall(), wakeCall(320), prioCall(384, 3), prioCall(160, 7), wakeCall(0), prioCall(384, 8)} {
		k := kernFull()
		want := call.want(k)
		got := call.do(k)
		eachLeaf(reflect.ValueOf(&k).Elem(), "", func(path string, leaf reflect.Value) { leaf.SetZero() })
		if !wantKernSame(got, want) {
			t.Fatalf("%s: an answer changed with its argument\n%+v", call.name, got)
		}
		k = kernFull()
		got = call.do(k)
		eachLeaf(reflect.ValueOf(&got).Elem(), "", func(path string, leaf reflect.Value) { leaf.SetZero() })
		if !wantKernSame(k, kernFull()) {
			t.Fatalf("%s: an argument changed with its answer\n%+v", call.name, k)
		}
	}
}

// One question has one answer, however often it is asked, by however many at once, and whatever was asked in between; and nobody is left behind who still works.
func TestReadyKeepsNothing(t *testing.T) {
	r := rand.New(rand.NewSource(90))
	before := runtime.NumGoroutine()
	states := []impl.Kern{kernFull(), anyTurns(r, 9), anyKern(r, 60), {Bits: 9}, {}}
	var askers sync.WaitGroup
	for asker := range 8 {
		askers.Go(func() {
			for i := range 100 {
				k := states[(asker+i)%len(states)]
				for _, call := range []readyCall{tickCall(), yieldCall(), wakeCall(320), prioCall(160, i%9)} {
					want := impl.Kern{}
					if wantKernOk(k) {
						want = call.want(k)
					}
					if !wantKernSame(call.do(k), want) {
						t.Errorf("%s\n%+v", call.name, k)
						return
					}
				}
			}
		})
	}
	askers.Wait()
	for range 1000 {
		if runtime.NumGoroutine() <= before {
			return
		}
		runtime.Gosched()
	}
	if now := runtime.NumGoroutine(); now > before {
		t.Error("goroutines are left:", now-before)
	}
}

// Lists that are empty are as good as such that are not there.
func TestReadyEmptyLists(t *testing.T) {
	k := withNil(kernFull())
	for prio := range k.Ready {
		if k.Ready[prio] == nil {
			k.Ready[prio] = make([]int, 0, 3)
		}
	}
	k.Ends[2].List, k.Notes[2].List = []int{}, make([]int, 0, 2)
	for _, call := range []readyCall{tickCall(), yieldCall(), wakeCall(320), prioCall(384, 0), prioCall(160, 7)} {
		checkReady(t, k, call)
		if !wantKernSame(call.do(k), call.do(kernFull())) {
			t.Error(call.name)
		}
	}
}

// On words: what is left is a state whose words read back.
func TestReadyOnWords(t *testing.T) {
	r := rand.New(rand.NewSource(91))
	for range 40 {
		k := anyTurns(r, 1+r.Intn(8))
		for _, call := range someCalls(r, k) {
			got := call.do(k)
			if back, ok := impl.LayRead(impl.LayMake(got)); !ok || !wantKernSame(back, got) {
				t.Fatalf("%s: not read back\n%+v", call.name, got)
			}
		}
	}
}
