package tests

import (
	"math/rand"
	"slices"

	"loop.example/donjon/impl"
)

// The document's words on turns, written out anew. All of these are for states that are ok.

// wantBehind takes a thread out of all lists of Ready, and puts it at the end of the one of its Prio.
func wantBehind(k *impl.Kern, at int) {
	for prio, list := range k.Ready {
		k.Ready[prio] = slices.DeleteFunc(list, func(other int) bool { return other == at })
	}
	prio := threadOf(k, at).Prio
	k.Ready[prio] = append(k.Ready[prio], at)
}

func wantTurnOver(k *impl.Kern, at int) {
	threadOf(k, at).Slice = 4
	wantBehind(k, at)
}

func wantReadyTick(k impl.Kern) impl.Kern {
	c := kernCopy(k)
	c.Ticks = min(k.Ticks+1, 1000000)
	if cur := wantKernCur(k); cur != 0 {
		threadOf(&c, cur).Slice--
		if threadOf(&c, cur).Slice == 0 {
			wantTurnOver(&c, cur)
		}
	}
	return c
}

func wantReadyYield(k impl.Kern) impl.Kern {
	c := kernCopy(k)
	if cur := wantKernCur(k); cur != 0 {
		wantTurnOver(&c, cur)
	}
	return c
}

func wantReadyWake(k impl.Kern, thread int) impl.Kern {
	c := kernCopy(k)
	for i := range c.Threads {
		th := &c.Threads[i]
		if th.At != thread || th.State != 0 {
			continue
		}
		th.State = 1
		th.On, th.Badge, th.Msg, th.Flags, th.Xfer = 0, 0, 0, 0, 0
		wantBehind(&c, thread)
	}
	return c
}

func wantReadyPrio(k impl.Kern, thread int, prio int) impl.Kern {
	c := kernCopy(k)
	if prio < 0 || prio > 7 {
		return c
	}
	for i := range c.Threads {
		if c.Threads[i].At != thread {
			continue
		}
		c.Threads[i].Prio = prio
		if c.Threads[i].State == 1 {
			wantBehind(&c, thread)
		}
	}
	return c
}

// readyCall is one of the four, with its arguments, and what the document says of it.
type readyCall struct {
	name string
	do   func(k impl.Kern) impl.Kern
	want func(k impl.Kern) impl.Kern
}

func tickCall() readyCall { return readyCall{"ReadyTick", impl.ReadyTick, wantReadyTick} }

func yieldCall() readyCall { return readyCall{"ReadyYield", impl.ReadyYield, wantReadyYield} }

func wakeCall(thread int) readyCall {
	return readyCall{
		name: "ReadyWake",
		do:   func(k impl.Kern) impl.Kern { return impl.ReadyWake(k, thread) },
		want: func(k impl.Kern) impl.Kern { return wantReadyWake(k, thread) },
	}
}

func prioCall(thread int, prio int) readyCall {
	return readyCall{
		name: "ReadyPrio",
		do:   func(k impl.Kern) impl.Kern { return impl.ReadyPrio(k, thread, prio) },
		want: func(k impl.Kern) impl.Kern { return wantReadyPrio(k, thread, prio) },
	}
}

// someCalls is each of the four, the last two for each thread of a state and for addresses beside them.
func someCalls(r *rand.Rand, k impl.Kern) []readyCall {
	calls := []readyCall{tickCall(), yieldCall()}
	ats := append(threadsOf(k), 0, 64, 128, farInts[r.Intn(len(farInts))])
	for _, at := range threadsOf(k) {
		ats = append(ats, at+[]int{-32, -1, 1, 4, 32}[r.Intn(5)])
	}
	for _, at := range ats {
		calls = append(calls, wakeCall(at), prioCall(at, r.Intn(8)))
		if r.Intn(4) == 0 {
			calls = append(calls, prioCall(at, []int{-1, 8, farInts[r.Intn(len(farInts))]}[r.Intn(3)]))
		}
	}
	return calls
}

// readyMost is how many threads kernTurns has room for.
const readyMost = 108

// kernTurns is threads that are idle or ready, as they are given, those that are ready in that order; turned, those that come later lie ahead of the others in memory. Their addresses are for the function to give.
func kernTurns(turn bool, threads ...impl.KernThread) impl.Kern {
	k := impl.Kern{Bits: 12, Ticks: 9}
	for i := range 4 {
		k.Slots = append(k.Slots, impl.TreeSlot{At: 64 + 4*i, Cap: origOf(impl.CapNode, 128+128*i, 5)})
	}
	for i, th := range threads {
		th.At = turnAt(turn, len(threads), i)
		k.Slots = append(k.Slots, impl.TreeSlot{At: 128 + 4*i, Cap: origOf(impl.CapThread, th.At, 0)})
		k.Threads = append(k.Threads, th)
		if th.State == impl.KernRuns {
			k.Ready[th.Prio] = append(k.Ready[th.Prio], th.At)
		}
	}
	if turn {
		slices.Reverse(k.Threads)
	}
	return k
}

// turnAt is where kernTurns lays the thread of a place.
func turnAt(turn bool, threads int, i int) int {
	if turn {
		i = threads - 1 - i
	}
	return 640 + 32*i
}

// readyWith is threads of one priority that are ready, with these ticks left of their turns.
func readyWith(prio int, left ...int) []impl.KernThread {
	var list []impl.KernThread
	for _, n := range left {
		list = append(list, impl.KernThread{State: impl.KernRuns, Prio: prio, Max: 7 - prio, Slice: n, Out: [3]uint32{uint32(n), 2, 3}})
	}
	return list
}

func idleWith(prio int, left int) impl.KernThread {
	return impl.KernThread{Prio: prio, Max: 5, Slice: left, Out: [3]uint32{13, 0, uint32(prio)}}
}

// anyTurns is a state with so many threads that are idle or ready, of a few priorities, by chance.
func anyTurns(r *rand.Rand, threads int) impl.Kern {
	least, most := r.Intn(8), 1+r.Intn(3)
	var list []impl.KernThread
	for range threads {
		th := impl.KernThread{Prio: min(7, least+r.Intn(most)), Max: r.Intn(8), Slice: 1 + r.Intn(4)}
		if r.Intn(4) > 0 {
			th.State = impl.KernRuns
			th.Pend = r.Intn(3)
			th.PendRef = uint32(th.Pend) * r.Uint32()
		}
		list = append(list, th)
	}
	k := kernTurns(r.Intn(2) == 0, list...)
	for prio := range k.Ready {
		r.Shuffle(len(k.Ready[prio]), func(i int, j int) {
			k.Ready[prio][i], k.Ready[prio][j] = k.Ready[prio][j], k.Ready[prio][i]
		})
	}
	k.Ticks = []int{0, r.Intn(1000001), 999999, 1000000}[r.Intn(4)]
	return k
}
