package tests

import (
	"math/rand"
	"slices"
	"testing"

	"loop.example/donjon/impl"
)

// ipcMeets is who gives a message to whom in a call that is not refused.
type ipcMeets struct {
	wantMessage
	receiver int
	to       uint32
}

// ipcObject is the capability by which a call is done: of a fault the one in the handler.
func ipcObject(k impl.Kern, c ipcCall) impl.Cap {
	if c.op == ipcFaults {
		h, _ := heldAt(k, c.thread+8)
		return h
	}
	return c.c
}

// ipcList is who waits at the object of a call; whether it is an endpoint, and whether those send.
func ipcList(k impl.Kern, c ipcCall) ([]int, int) {
	o := ipcObject(k, c)
	if e := endAt(&k, o.Addr); o.Kind == impl.CapEnd && e != nil && c.op != ipcSignals && c.op != ipcReplies {
		return e.List, e.Kind
	}
	if n := noteAt(&k, o.Addr); o.Kind == impl.CapNote && n != nil && (c.op == ipcSignals || c.op == ipcRecvs) {
		return n.List, 0
	}
	return nil, 0
}

// meets is the message that is given in a call; false, if none is.
func (c ipcCall) meets(k impl.Kern, code int) (ipcMeets, bool) {
	list, kind := ipcList(k, c)
	o := ipcObject(k, c)
	given := code == impl.CodeOk || code == impl.CodeDeep || code == impl.CodeBlocked
	switch {
	case c.op == ipcFaults && (!speaks(k, c.thread) || o.Rights&6 != 6):
		return ipcMeets{}, false
	case (c.op == ipcSends || c.op == ipcFaults) && kind == 2 && given:
		m := wantMessage{c.thread, o.Badge, c.msg, c.call, o.Rights&impl.CapGrants != 0, c.xfer}
		if c.op == ipcFaults {
			m = wantMessage{c.thread, o.Badge, c.msg, true, false, 0}
		}
		return ipcMeets{m, list[0], threadOf(&k, list[0]).Xfer}, true
	case c.op == ipcRecvs && kind == 1 && code == impl.CodeServed:
		s := threadOf(&k, list[0])
		return ipcMeets{wantMessage{s.At, s.Badge, s.Msg, s.Flags&impl.KernCall != 0, s.Flags&impl.KernGrant != 0, s.Xfer}, c.thread, c.xfer}, true
	}
	return ipcMeets{}, false
}

// ipcNamed is the threads of whom promise 24 says that they may change.
func ipcNamed(k impl.Kern, c ipcCall) []int {
	list, _ := ipcList(k, c)
	if len(list) > 0 {
		list = list[:1]
	}
	list = slices.Clone(list)
	if c.op != ipcSignals {
		list = append(list, c.thread)
	}
	if reply, held := heldAt(k, c.thread+4); held && (c.op == ipcReplies || c.op == ipcRecvs) {
		list = append(list, reply.Addr)
	}
	return list
}

// elseOf is what promise 24 says nothing of: the state without some threads, and without the object of a call and the slots.
func elseOf(k impl.Kern, c ipcCall, named []int) impl.Kern {
	w := kernCopy(k)
	w.Slots = nil
	w.Threads = slices.DeleteFunc(w.Threads, func(th impl.KernThread) bool { return slices.Contains(named, th.At) })
	o := ipcObject(k, c)
	w.Ends = slices.DeleteFunc(w.Ends, func(e impl.KernEnd) bool { return o.Kind == impl.CapEnd && e.At == o.Addr })
	w.Notes = slices.DeleteFunc(w.Notes, func(n impl.KernNote) bool { return o.Kind == impl.CapNote && n.At == o.Addr })
	for prio := range w.Ready {
		w.Ready[prio] = slices.DeleteFunc(w.Ready[prio], func(at int) bool { return slices.Contains(named, at) })
	}
	return w
}

// checkPromise24 asks the promise by itself of what a call left; it answers the slots that are new.
func checkPromise24(t *testing.T, k impl.Kern, c ipcCall, got impl.Kern) []impl.TreeSlot {
	t.Helper()
	if !impl.KernOk(got) || !wantKernOk(got) {
		t.Fatalf("%v: what is left is not ok\n%+v\nof\n%+v", c, got, k)
	}
	named := ipcNamed(k, c)
	if was, is := elseOf(k, c, named), elseOf(got, c, named); !wantKernSame(was, is) || len(got.Threads) != len(k.Threads) {
		t.Fatalf("%v: others than %v changed\n%+v\nof\n%+v", c, named, got, k)
	}
	var added, stayed, kept []impl.TreeSlot
	for _, s := range got.Slots {
		if placeOf(k, s.At) < 0 {
			added = append(added, s)
		} else {
			stayed = append(stayed, s)
		}
		if i := impl.TreeFind(got.Slots, s.At); !s.Cap.Orig && s.Cap.Kind != impl.CapReply && !impl.CapBelow(s.Cap, got.Slots[impl.TreeUp(got.Slots, i)].Cap) {
			t.Fatalf("%v: %v gives more than what it came of\n%+v", c, s, got)
		}
	}
	for _, s := range k.Slots {
		dropped := s.At == c.thread+4 && (c.op == ipcReplies || c.op == ipcRecvs)
		if !dropped || placeOf(got, s.At) >= 0 {
			kept = append(kept, s)
		}
	}
	// A reply that was dropped may be followed by one that is held, in the same slot; what stayed is then the others.
	if reply, held := heldAt(k, c.thread+4); held && c.op == ipcRecvs {
		if other, _ := heldAt(got, c.thread+4); other != reply && other.Kind == impl.CapReply {
			added = append(added, got.Slots[placeOf(got, c.thread+4)])
			kept = slices.DeleteFunc(kept, func(s impl.TreeSlot) bool { return s.At == c.thread+4 })
			stayed = slices.DeleteFunc(stayed, func(s impl.TreeSlot) bool { return s.At == c.thread+4 })
		}
	}
	if !slices.Equal(kept, stayed) || len(added) > 2 {
		t.Fatalf("%v: slots are not as they were\n%+v\nof\n%+v", c, got, k)
	}
	return added
}

// checkPromise25 asks the promise by itself: who was taken waits no more, those behind it still do, and one thread has the word.
func checkPromise25(t *testing.T, k impl.Kern, c ipcCall, code int, got impl.Kern) {
	t.Helper()
	m, met := c.meets(k, code)
	list, _ := ipcList(k, c)
	left, _ := ipcList(got, c)
	if c.op == ipcReplies && code == impl.CodeOk {
		if again, code := impl.IpcReply(got, c.thread, c.msg); code != impl.CodeEmpty || !wantKernSame(again, got) {
			t.Fatalf("%v: a reply was given twice: %d\n%+v", c, code, again)
		}
	}
	if !met {
		return
	}
	if !slices.Equal(left, list[1:]) {
		t.Fatalf("%v: of %v there wait %v\n%+v", c, list, left, k)
	}
	for _, e := range got.Ends {
		if slices.Contains(e.List, m.sender) || slices.Contains(e.List, m.receiver) {
			t.Fatalf("%v: who was taken still waits\n%+v\nof\n%+v", c, got, k)
		}
	}
	for i, th := range got.Threads {
		switch {
		case th.At == m.receiver && (th.Out[1] != m.word || th.Out[2] != uint32(m.badge) || th.State != impl.KernRuns):
			t.Fatalf("%v: %+v has not what was sent: %+v", c, th, m)
		case th.At != m.receiver && th.Out != k.Threads[i].Out && (th.Out[1] != 0 || th.Out[2] != 0):
			t.Fatalf("%v: %+v has a word too\n%+v", c, th, k)
		}
	}
}

// checkPromise26 asks the promise by itself: who calls and finds room waits, and one thread holds the reply, as what came of the original.
func checkPromise26(t *testing.T, k impl.Kern, c ipcCall, code int, got impl.Kern, added []impl.TreeSlot) {
	t.Helper()
	for _, th := range got.Threads {
		holders := 0
		for i, s := range got.Slots {
			if s.Cap.Kind != impl.CapReply || s.Cap.Addr != th.At {
				continue
			}
			up := got.Slots[upOf(got.Slots, i)].Cap
			if up != origOf(impl.CapThread, th.At, 0) || !slices.Contains(threadsOf(got), s.At-4) {
				t.Fatalf("%v: a reply to %d in %d came of %v\n%+v", c, th.At, s.At, up, got)
			}
			holders++
		}
		if (th.State == impl.KernCalls) != (holders == 1) || holders > 1 {
			t.Fatalf("%v: %d hold the reply to %+v\n%+v", c, holders, th, got)
		}
	}
	replies := slices.DeleteFunc(slices.Clone(added), func(s impl.TreeSlot) bool { return s.Cap.Kind != impl.CapReply })
	m, met := c.meets(k, code)
	if !met || !m.call {
		if len(replies) > 0 {
			t.Fatalf("%v: a reply came of nothing\n%+v\nof\n%+v", c, got, k)
		}
		return
	}
	sender := *threadOf(&got, m.sender)
	held := len(replies) == 1 && replies[0].At == m.receiver+4 && replies[0].Cap == impl.Cap{Kind: impl.CapReply, Addr: m.sender}
	switch {
	case held != (sender.State == impl.KernCalls):
		t.Fatalf("%v: the reply is held: %v, and the caller is %+v\n%+v", c, held, sender, k)
	case held && sender.Out != threadOf(&k, m.sender).Out:
		t.Fatalf("%v: who calls has an answer already: %+v\n%+v", c, sender, k)
	case !held && c.op == ipcRecvs && (sender.State != impl.KernRuns || sender.Out != [3]uint32{impl.CodeDeep, 0, 0}):
		t.Fatalf("%v: no room, and the caller is %+v\n%+v", c, sender, k)
	case !held && c.op == ipcSends && (sender.State != impl.KernRuns || code != impl.CodeDeep):
		t.Fatalf("%v: no room, code %d, and the caller is %+v\n%+v", c, code, sender, k)
	case !held && c.op == ipcFaults && sender.State != impl.KernIdle:
		t.Fatalf("%v: no room, and who faulted is %+v\n%+v", c, sender, k)
	}
}

// checkPromise27 asks the promise by itself of a state behind a call, and the slots that are new there.
func checkPromise27(t *testing.T, k impl.Kern, c ipcCall, code int, got impl.Kern, added []impl.TreeSlot) {
	t.Helper()
	along := slices.DeleteFunc(slices.Clone(added), func(s impl.TreeSlot) bool { return s.Cap.Kind == impl.CapReply })
	m, met := c.meets(k, code)
	if !met {
		if len(along) > 0 {
			t.Fatalf("%v: %v came with no message\n%+v", c, along, k)
		}
		return
	}
	from, fromCode, _ := impl.LookFrom(k, m.sender, m.xfer)
	to, toCode, _ := impl.LookFrom(k, m.receiver, m.to)
	out := threadOf(&got, m.receiver).Out[0]
	if len(along) == 0 {
		ahead := k
		if c.op == ipcRecvs && placeOf(k, c.thread+4) >= 0 {
			ahead, _ = impl.ReapOne(k, c.thread+4)
		}
		_, refused := impl.HandCopy(ahead, from, to, 7)
		if out != 0 || m.grant && fromCode == 0 && toCode == 0 && m.xfer != 0 && m.to != 0 && refused == 0 {
			t.Fatalf("%v: nothing came along, answer %d\n%+v\nof\n%+v", c, out, got, k)
		}
		return
	}
	of, _ := impl.KernCap(k, from)
	want, derived := impl.CapCopy(of, 7)
	up := impl.TreeUp(got.Slots, impl.TreeFind(got.Slots, to))
	if out != impl.CodeWithCap || len(along) != 1 || !m.grant || m.xfer == 0 || m.to == 0 || fromCode != 0 || toCode != 0 ||
		along[0].At != to || !derived || along[0].Cap != want || up < 0 || got.Slots[up].At != from {
		t.Fatalf("%v: %v came along, answer %d\n%+v\nof\n%+v", c, along, out, got, k)
	}
}

// checkIpc holds a call against the document, at a state that is ok, and asks its promises; it answers what was left, and the code.
func checkIpc(t *testing.T, k impl.Kern, c ipcCall) (impl.Kern, int) {
	t.Helper()
	want, wantCode := wantIpc(k, c)
	got, code := c.do(k)
	if code != wantCode || !wantKernSame(got, want) {
		t.Fatalf("%v: code %d, want %d, got\n%+v\nwant\n%+v\nof\n%+v", c, code, wantCode, got, want, k)
	}
	switch code {
	case impl.CodeRange, impl.CodeKind, impl.CodeRight, impl.CodeEmpty:
		if !wantKernSame(got, k) {
			t.Fatalf("%v: refused with %d, and not as it was\n%+v\nof\n%+v", c, code, got, k)
		}
		return got, code
	}
	added := checkPromise24(t, k, c, got)
	checkPromise25(t, k, c, code, got)
	checkPromise26(t, k, c, code, got, added)
	checkPromise27(t, k, c, code, got, added)
	checkStands(t, got)
	return got, code
}

// The states that the tests begin with are ok, and hold what their names say.
func TestIpcStates(t *testing.T) {
	for i, k := range ipcStates() {
		if !checkKernOk(t, k) {
			t.Error("not ok", i)
		}
		checkPromise16(t, k)
	}
	for _, depth := range []int{0, 1, 11, 12} {
		for _, slots := range []int{0, 299, 300} {
			for way := range 8 {
				p := pairPlan{depth: depth, slots: slots, held: way%2 == 0, sends: way/2%2 == 0, flags: way % 4}
				p.awaits = !p.sends && way/4 == 0
				k := kernPair(p)
				if !checkKernOk(t, k) || slotOf(&k, slotOfObject(k, pairSender)).Depth != depth || slots > 0 && len(k.Slots) != slots {
					t.Fatal("not as it was meant", p, len(k.Slots))
				}
			}
		}
	}
	for place := range 32 {
		k := kernHall()
		if at, code, _ := impl.LookFrom(k, hallPlain, hallRef(place)); at != hallAt(place) || code != 0 || (placeOf(k, at) < 0) != (place == 0 || place > 9) {
			t.Error("not as it was meant", place, at, code)
		}
	}
}

// ipcCase is a call at a state, its code, and what it changes there.
type ipcCase struct {
	name   string
	call   ipcCall
	code   int
	change func(k *impl.Kern)
}

func checkIpcCases(t *testing.T, k impl.Kern, cases []ipcCase) {
	t.Helper()
	for _, c := range cases {
		want := kernCopy(k)
		c.change(&want)
		if got, code := c.call.do(k); code != c.code || !wantKernSame(got, want) {
			t.Errorf("%s: code %d, want %d, got\n%+v\nwant\n%+v", c.name, code, c.code, got, want)
		}
		if own, code := wantIpc(k, c.call); code != c.code || !wantKernSame(own, want) {
			t.Errorf("%s: the test's own answer is %d\n%+v", c.name, code, own)
		}
		checkIpc(t, k, c.call)
	}
}

// stillIn writes into a state what it has of a thread that stands in no list, or in Ready, and keeps its answer.
func stillIn(k *impl.Kern, thread int, state int) {
	th := threadOf(k, thread)
	*th = impl.KernThread{At: thread, State: state, Prio: th.Prio, Max: th.Max, Slice: th.Slice, Out: th.Out}
}

// ranIn writes into a state what it has of a thread that goes on with an answer.
func ranIn(k *impl.Kern, thread int, a uint32, b uint32, c uint32) {
	stillIn(k, thread, impl.KernRuns)
	threadOf(k, thread).Out = [3]uint32{a, b, c}
}

// plainSends is what kernHall has of hallPlain when it waits as a sender, with the word 5 and the Xfer of place 1.
func plainSends(k *impl.Kern, end int, badge int, flags int) {
	th := threadOf(k, hallPlain)
	th.State, th.On, th.Badge, th.Msg, th.Flags, th.Xfer = impl.KernSends, end, badge, 5, flags, hallRef(1)
	k.Ready[3] = []int{hallBare, hallServer}
}

func TestIpcSendWaits(t *testing.T) {
	send := func(c impl.Cap, call bool, waits bool) ipcCall {
		return ipcCall{op: ipcSends, thread: hallPlain, c: c, msg: 5, xfer: hallRef(1), call: call, waits: waits}
	}
	alone := func(badge int, flags int) func(k *impl.Kern) {
		return func(k *impl.Kern) {
			plainSends(k, hallEnd, badge, flags)
			k.Ends[0] = impl.KernEnd{At: hallEnd, Kind: 1, List: []int{hallPlain}}
		}
	}
	behind := func(badge int, flags int) func(k *impl.Kern) {
		return func(k *impl.Kern) {
			plainSends(k, hallSent, badge, flags)
			k.Ends[1].List = []int{hallGiver, hallCaller, hallAsker, hallPlain}
		}
	}
	checkIpcCases(t, kernHall(), []ipcCase{
		{"nobody is there", send(endOf(hallEnd, 2, 9), false, true), impl.CodeBlocked, alone(9, 0)},
		{"by the original", send(origOf(impl.CapEnd, hallEnd, 0), false, true), impl.CodeBlocked, alone(0, impl.KernGrant)},
		{"one that grants", send(endOf(hallEnd, 6, 65535), false, true), impl.CodeBlocked, alone(65535, impl.KernGrant)},
		{"a call", send(endOf(hallEnd, 6, 1), true, true), impl.CodeBlocked, alone(1, impl.KernCall|impl.KernGrant)},
		{"one that reads too", send(endOf(hallEnd, 3, 1), false, true), impl.CodeBlocked, alone(1, 0)},
		{"others send", send(endOf(hallSent, 2, 4), false, true), impl.CodeBlocked, behind(4, 0)},
		{"others send, a call", send(endOf(hallSent, 7, 4), true, true), impl.CodeBlocked, behind(4, 3)},
		{"nobody is there, and it does not wait", send(endOf(hallEnd, 7, 9), false, false), impl.CodeBusy, asItIs},
		{"a call, and it does not wait", send(endOf(hallEnd, 7, 9), true, false), impl.CodeBusy, asItIs},
		{"others send, and it does not wait", send(endOf(hallSent, 7, 9), false, false), impl.CodeBusy, asItIs},
		{"no right", send(endOf(hallEnd, 5, 9), false, true), impl.CodeRight, asItIs},
		{"no right, and others wait", send(endOf(hallWaited, 1, 0), false, true), impl.CodeRight, asItIs},
		{"no right to call", send(endOf(hallEnd, 3, 9), true, true), impl.CodeRight, asItIs},
		{"no right to send, but to grant", send(endOf(hallWaited, 4, 9), true, true), impl.CodeRight, asItIs},
		{"no such endpoint", send(endOf(2040, 7, 9), false, true), impl.CodeKind, asItIs},
		{"where a notification is", send(endOf(hallNote, 7, 9), false, true), impl.CodeKind, asItIs},
		{"beyond memory", send(endOf(4092, 7, 9), false, true), impl.CodeKind, asItIs},
		{"a notification", send(noteOf(hallNote, 3, 9), false, true), impl.CodeKind, asItIs},
		{"a notification where an endpoint is", send(noteOf(hallEnd, 3, 9), false, true), impl.CodeKind, asItIs},
		{"a thread", send(copyOf(impl.CapThread, hallWaiter, 0), false, true), impl.CodeKind, asItIs},
		{"a reply", send(copyOf(impl.CapReply, hallClient, 0), false, true), impl.CodeKind, asItIs},
		{"a frame with rights", send(frameOf(hallFrame, 2, 3), false, true), impl.CodeKind, asItIs},
		{"a region", send(regionOf(1536, 6, 0), false, true), impl.CodeKind, asItIs},
		{"nothing", send(impl.Cap{}, false, true), impl.CodeRange, asItIs},
		{"too great a badge", send(endOf(hallEnd, 7, 65536), false, true), impl.CodeRange, asItIs},
		{"too many rights", send(endOf(hallEnd, 8, 0), false, true), impl.CodeRange, asItIs},
		{"not where an endpoint can be", send(endOf(hallEnd+1, 7, 0), false, true), impl.CodeRange, asItIs},
	})
}

func TestIpcSendMeets(t *testing.T) {
	send := func(c impl.Cap, xfer uint32, call bool, waits bool) ipcCall {
		return ipcCall{op: ipcSends, thread: hallPlain, c: c, msg: 5, xfer: xfer, call: call, waits: waits}
	}
	waiter := func(code uint32, badge uint32) func(k *impl.Kern) {
		return func(k *impl.Kern) {
			k.Ends[2].List = []int{hallHolder}
			ranIn(k, hallWaiter, code, 5, badge)
			k.Ready[3] = []int{hallBare, hallPlain, hallServer, hallWaiter}
		}
	}
	lone := func(k *impl.Kern) {
		k.Ends[3] = impl.KernEnd{At: hallLoneEnd}
		ranIn(k, hallLone, 0, 5, 7)
		k.Ready[6] = []int{hallBegun, hallLone}
	}
	calls := func(k *impl.Kern, receiver int) {
		stillIn(k, hallPlain, impl.KernCalls)
		k.Ready[3] = slices.DeleteFunc(k.Ready[3], func(at int) bool { return at == hallPlain })
		putSlot(k, slotOfObject(*k, hallPlain), receiver+4, copyOf(impl.CapReply, hallPlain, 0))
	}
	along := func(place int, c impl.Cap) func(k *impl.Kern) {
		return func(k *impl.Kern) {
			waiter(impl.CodeWithCap, 9)(k)
			putSlot(k, hallAt(place), hallAt(12), c)
		}
	}
	checkIpcCases(t, kernHall(), []ipcCase{
		{"a word", send(endOf(hallWaited, 2, 65535), hallRef(1), false, true), impl.CodeOk, waiter(0, 65535)},
		{"not to wait is the same then", send(endOf(hallWaited, 3, 9), hallRef(1), false, false), impl.CodeOk, waiter(0, 9)},
		{"to one alone", send(endOf(hallLoneEnd, 7, 7), hallRef(1), false, true), impl.CodeOk, lone},
		{"with an endpoint", send(endOf(hallWaited, 6, 9), hallRef(1), false, true), impl.CodeOk, along(1, endOf(hallEnd, 7, 0))},
		{"with one that has a badge", send(endOf(hallWaited, 6, 9), hallRef(2), false, false), impl.CodeOk, along(2, endOf(hallEnd, 3, 9))},
		{"with a notification", send(endOf(hallWaited, 6, 9), hallRef(3), false, true), impl.CodeOk, along(3, noteOf(hallNote, 3, 0))},
		{"with a frame", send(endOf(hallWaited, 6, 9), hallRef(4), false, true), impl.CodeOk, along(4, frameOf(hallFrame, 2, 3))},
		{"with a thread", send(endOf(hallWaited, 6, 9), hallRef(5), false, true), impl.CodeOk, along(5, copyOf(impl.CapThread, hallPlain, 0))},
		{"with a node, through itself", send(endOf(hallWaited, 6, 9), refOf("00110 00110"), false, true), impl.CodeOk, along(6, copyOf(impl.CapNode, hallNode, 5))},
		{"with what came of an original", send(endOf(hallWaited, 6, 9), hallRef(8), false, true), impl.CodeOk, along(8, endOf(hallEnd, 7, 0))},
		{"with a region, of which there is no copy", send(endOf(hallWaited, 6, 9), hallRef(7), false, true), impl.CodeOk, waiter(0, 9)},
		{"with nothing", send(endOf(hallWaited, 6, 9), hallRef(20), false, true), impl.CodeOk, waiter(0, 9)},
		{"with no slot", send(endOf(hallWaited, 6, 9), refOf("00001 0"), false, true), impl.CodeOk, waiter(0, 9)},
		{"with no Xfer", send(endOf(hallWaited, 6, 9), 0, false, true), impl.CodeOk, waiter(0, 9)},
		{"by one that does not grant", send(endOf(hallWaited, 3, 9), hallRef(1), false, true), impl.CodeOk, waiter(0, 9)},
		{"a call", send(endOf(hallWaited, 6, 9), 0, true, true), impl.CodeBlocked, func(k *impl.Kern) {
			waiter(0, 9)(k)
			calls(k, hallWaiter)
		}},
		{"a call with an endpoint, that would not wait", send(endOf(hallWaited, 7, 9), hallRef(1), true, false), impl.CodeBlocked, func(k *impl.Kern) {
			along(1, endOf(hallEnd, 7, 0))(k)
			calls(k, hallWaiter)
		}},
		{"a call to one alone", send(endOf(hallLoneEnd, 7, 7), hallRef(1), true, true), impl.CodeBlocked, func(k *impl.Kern) {
			lone(k)
			calls(k, hallLone)
		}},
	})
}

// The receiver that is the first holds a reply already.
func TestIpcSendNoRoom(t *testing.T) {
	k := kernHall()
	k.Ends[2].List = []int{hallHolder, hallWaiter}
	send := func(rights int, xfer uint32, call bool) ipcCall {
		return ipcCall{op: ipcSends, thread: hallPlain, c: endOf(hallWaited, rights, 9), msg: 5, xfer: xfer, call: call}
	}
	holder := func(code uint32) func(k *impl.Kern) {
		return func(k *impl.Kern) {
			k.Ends[2].List = []int{hallWaiter}
			ranIn(k, hallHolder, code, 5, 9)
			k.Ready[2] = []int{hallHolder}
		}
	}
	checkIpcCases(t, k, []ipcCase{
		{"a word", send(2, 0, false), impl.CodeOk, holder(0)},
		{"a call", send(6, 0, true), impl.CodeDeep, holder(0)},
		{"a call with an endpoint", send(6, hallRef(2), true), impl.CodeDeep, func(k *impl.Kern) {
			holder(impl.CodeWithCap)(k)
			putSlot(k, hallAt(2), hallAt(13), endOf(hallEnd, 3, 9))
		}},
	})
}

func TestIpcRecvWaits(t *testing.T) {
	recv := func(thread int, c impl.Cap, waits bool) ipcCall {
		return ipcCall{op: ipcRecvs, thread: thread, c: c, xfer: hallRef(14), waits: waits}
	}
	plainWaits := func(place int, list ...int) func(k *impl.Kern) {
		return func(k *impl.Kern) {
			th := threadOf(k, hallPlain)
			th.State, th.On, th.Xfer = impl.KernWaits, hallEnd+4*place, hallRef(14)
			k.Ends[place] = impl.KernEnd{At: hallEnd + 4*place, Kind: 2, List: list}
			k.Ready[3] = []int{hallBare, hallServer}
		}
	}
	freed := func(k *impl.Kern) {
		cutSlot(k, hallServer+4)
		toldIn(k, hallClient)
		k.Ready[5] = []int{hallClient}
	}
	checkIpcCases(t, kernHall(), []ipcCase{
		{"nobody is there", recv(hallPlain, endOf(hallEnd, 1, 9), true), impl.CodeBlocked, plainWaits(0, hallPlain)},
		{"by the original", recv(hallPlain, origOf(impl.CapEnd, hallEnd, 0), true), impl.CodeBlocked, plainWaits(0, hallPlain)},
		{"others wait", recv(hallPlain, endOf(hallWaited, 3, 0), true), impl.CodeBlocked, plainWaits(2, hallWaiter, hallHolder, hallPlain)},
		{"another one waits", recv(hallPlain, endOf(hallLoneEnd, 5, 0), true), impl.CodeBlocked, plainWaits(3, hallLone, hallPlain)},
		{"nobody is there, and it does not wait", recv(hallPlain, endOf(hallEnd, 1, 9), false), impl.CodeBusy, asItIs},
		{"others wait, and it does not", recv(hallPlain, endOf(hallWaited, 1, 9), false), impl.CodeBusy, asItIs},
		{"the reply that it held is dropped", recv(hallServer, endOf(hallEnd, 1, 0), true), impl.CodeBlocked, func(k *impl.Kern) {
			freed(k)
			th := threadOf(k, hallServer)
			th.State, th.On, th.Xfer = impl.KernWaits, hallEnd, hallRef(14)
			k.Ends[0] = impl.KernEnd{At: hallEnd, Kind: 2, List: []int{hallServer}}
			k.Ready[3] = []int{hallBare, hallPlain}
		}},
		{"it is dropped though it does not wait", recv(hallServer, endOf(hallEnd, 1, 0), false), impl.CodeBusy, freed},
		{"it is not with no right", recv(hallServer, endOf(hallEnd, 6, 0), false), impl.CodeRight, asItIs},
		{"nor where there is no endpoint", recv(hallServer, endOf(2040, 7, 0), true), impl.CodeKind, asItIs},
		{"nor with nothing", recv(hallServer, impl.Cap{}, true), impl.CodeRange, asItIs},
		{"no right", recv(hallPlain, endOf(hallSent, 6, 9), true), impl.CodeRight, asItIs},
		{"no right, and nobody is there", recv(hallPlain, endOf(hallEnd, 2, 9), false), impl.CodeRight, asItIs},
		{"where a notification is", recv(hallPlain, endOf(hallActive, 7, 9), true), impl.CodeKind, asItIs},
		{"a frame", recv(hallPlain, frameOf(hallFrame, 2, 3), true), impl.CodeKind, asItIs},
		{"the reply itself", recv(hallServer, copyOf(impl.CapReply, hallClient, 0), true), impl.CodeKind, asItIs},
		{"a node", recv(hallPlain, copyOf(impl.CapNode, hallNode, 5), true), impl.CodeKind, asItIs},
		{"a region", recv(hallPlain, regionOf(1536, 6, 0), true), impl.CodeKind, asItIs},
	})
}

func TestIpcRecvMeets(t *testing.T) {
	recv := func(thread int, end int, xfer uint32) ipcCall {
		return ipcCall{op: ipcRecvs, thread: thread, c: endOf(end, 1, 44), xfer: xfer, waits: end%8 == 0}
	}
	taken := func(sender int, list ...int) func(k *impl.Kern) {
		return func(k *impl.Kern) {
			end := threadOf(k, sender).On
			ranIn(k, sender, 0, 0, 0)
			prio := threadOf(k, sender).Prio
			k.Ready[prio] = append(k.Ready[prio], sender)
			*endAt(k, end) = impl.KernEnd{At: end, Kind: min(1, len(list)), List: list}
		}
	}
	k := kernHall()
	checkIpcCases(t, k, []ipcCase{
		{"a word, of one alone", recv(hallPlain, hallOneEnd, hallRef(12)), impl.CodeServed, func(k *impl.Kern) {
			taken(hallSender)(k)
			threadOf(k, hallPlain).Out = [3]uint32{0, 23, 3}
		}},
		{"of the first of three, with an endpoint", recv(hallPlain, hallSent, hallRef(14)), impl.CodeServed, func(k *impl.Kern) {
			taken(hallGiver, hallCaller, hallAsker)(k)
			threadOf(k, hallPlain).Out = [3]uint32{64, 1 << 31, 11}
			putSlot(k, hallAt(1), hallAt(14), endOf(hallEnd, 7, 0))
		}},
		{"into what is taken", recv(hallPlain, hallSent, hallRef(2)), impl.CodeServed, func(k *impl.Kern) {
			taken(hallGiver, hallCaller, hallAsker)(k)
			threadOf(k, hallPlain).Out = [3]uint32{0, 1 << 31, 11}
		}},
		{"with no Xfer", recv(hallPlain, hallSent, 0), impl.CodeServed, func(k *impl.Kern) {
			taken(hallGiver, hallCaller, hallAsker)(k)
			threadOf(k, hallPlain).Out = [3]uint32{0, 1 << 31, 11}
		}},
		{"of one with no space", recv(hallBare, hallSent, hallRef(14)), impl.CodeServed, func(k *impl.Kern) {
			taken(hallGiver, hallCaller, hallAsker)(k)
			threadOf(k, hallBare).Out = [3]uint32{0, 1 << 31, 11}
		}},
		{"through a guard, with a reply that is dropped", recv(hallServer, hallSent, refOf("10 11111")), impl.CodeServed, func(k *impl.Kern) {
			cutSlot(k, hallServer+4)
			toldIn(k, hallClient)
			k.Ready[5] = []int{hallClient}
			taken(hallGiver, hallCaller, hallAsker)(k)
			threadOf(k, hallServer).Out = [3]uint32{64, 1 << 31, 11}
			putSlot(k, hallAt(1), hallAt(31), endOf(hallEnd, 7, 0))
		}},
		{"through a guard that is not met", recv(hallServer, hallOneEnd, refOf("01 11111")), impl.CodeServed, func(k *impl.Kern) {
			cutSlot(k, hallServer+4)
			toldIn(k, hallClient)
			k.Ready[5] = []int{hallClient}
			taken(hallSender)(k)
			threadOf(k, hallServer).Out = [3]uint32{0, 23, 3}
		}},
	})
}

// Who calls is the first in its List.
func TestIpcRecvCalls(t *testing.T) {
	recv := func(thread int, xfer uint32) ipcCall {
		return ipcCall{op: ipcRecvs, thread: thread, c: endOf(hallSent, 3, 44), xfer: xfer}
	}
	called := func(k *impl.Kern, sender int, receiver int, out [3]uint32) {
		stillIn(k, sender, impl.KernCalls)
		threadOf(k, receiver).Out = out
		putSlot(k, slotOfObject(*k, sender), receiver+4, copyOf(impl.CapReply, sender, 0))
	}
	freed := func(k *impl.Kern) {
		cutSlot(k, hallServer+4)
		toldIn(k, hallClient)
		k.Ready[5] = []int{hallClient}
	}
	k := kernHall()
	k.Ends[1].List = []int{hallCaller, hallAsker, hallGiver}
	checkIpcCases(t, k, []ipcCase{
		{"a call with an endpoint", recv(hallPlain, hallRef(14)), impl.CodeServed, func(k *impl.Kern) {
			k.Ends[1].List = []int{hallAsker, hallGiver}
			called(k, hallCaller, hallPlain, [3]uint32{64, 21, 65535})
			putSlot(k, hallAt(2), hallAt(14), endOf(hallEnd, 3, 9))
		}},
		{"a call, by one with a reply that is dropped", recv(hallServer, 0), impl.CodeServed, func(k *impl.Kern) {
			k.Ends[1].List = []int{hallAsker, hallGiver}
			freed(k)
			called(k, hallCaller, hallServer, [3]uint32{0, 21, 65535})
		}},
	})
	k.Ends[1].List = []int{hallAsker, hallCaller, hallGiver}
	checkIpcCases(t, k, []ipcCase{
		{"a call that does not grant, with an Xfer", recv(hallPlain, hallRef(14)), impl.CodeServed, func(k *impl.Kern) {
			k.Ends[1].List = []int{hallCaller, hallGiver}
			called(k, hallAsker, hallPlain, [3]uint32{0, 22, 0})
		}},
	})
}

func TestIpcListens(t *testing.T) {
	recv := func(thread int, c impl.Cap, waits bool) ipcCall {
		return ipcCall{op: ipcRecvs, thread: thread, c: c, xfer: hallRef(14), waits: waits}
	}
	listens := func(thread int, place int, list ...int) func(k *impl.Kern) {
		return func(k *impl.Kern) {
			th := threadOf(k, thread)
			th.State, th.On = impl.KernListens, hallNote+4*place
			k.Notes[place].List = list
			k.Ready[3] = slices.DeleteFunc(k.Ready[3], func(at int) bool { return at == thread })
		}
	}
	heard := func(thread int, place int, word uint32) func(k *impl.Kern) {
		return func(k *impl.Kern) {
			k.Notes[place] = impl.KernNote{At: hallNote + 4*place}
			threadOf(k, thread).Out = [3]uint32{0, word, 0}
		}
	}
	checkIpcCases(t, kernHall(), []ipcCase{
		{"nothing is there", recv(hallPlain, noteOf(hallNote, 1, 9), true), impl.CodeBlocked, listens(hallPlain, 0, hallPlain)},
		{"by the original", recv(hallPlain, origOf(impl.CapNote, hallNote, 0), true), impl.CodeBlocked, listens(hallPlain, 0, hallPlain)},
		{"others listen", recv(hallPlain, noteOf(hallListens, 3, 0), true), impl.CodeBlocked, listens(hallPlain, 1, hallSecond, hallFirst, hallPlain)},
		{"a word is there", recv(hallPlain, noteOf(hallActive, 1, 100), true), impl.CodeServed, heard(hallPlain, 2, 9)},
		{"one that does not wait hears it too", recv(hallPlain, noteOf(hallActive, 3, 0), false), impl.CodeServed, heard(hallPlain, 2, 9)},
		{"the word is 0", recv(hallPlain, noteOf(hallZero, 1, 0), false), impl.CodeServed, heard(hallPlain, 3, 0)},
		{"a reply that it holds stays", recv(hallServer, noteOf(hallActive, 1, 0), true), impl.CodeServed, heard(hallServer, 2, 9)},
		{"it stays while it listens", recv(hallServer, noteOf(hallNote, 1, 0), true), impl.CodeBlocked, listens(hallServer, 0, hallServer)},
		{"it stays where there is nothing", recv(hallServer, noteOf(hallNote, 1, 0), false), impl.CodeBusy, asItIs},
		{"it does not wait", recv(hallPlain, noteOf(hallNote, 3, 0), false), impl.CodeBusy, asItIs},
		{"others listen, and it does not wait", recv(hallPlain, noteOf(hallListens, 3, 0), false), impl.CodeBusy, asItIs},
		{"no right", recv(hallPlain, noteOf(hallActive, 2, 0), true), impl.CodeRight, asItIs},
		{"no right, and nothing is there", recv(hallPlain, noteOf(hallNote, 0, 0), false), impl.CodeRight, asItIs},
		{"no such notification", recv(hallPlain, noteOf(2040, 3, 0), true), impl.CodeKind, asItIs},
		{"where an endpoint is", recv(hallPlain, noteOf(hallSent, 3, 0), true), impl.CodeKind, asItIs},
		{"more rights than it can have", recv(hallPlain, noteOf(hallNote, 4, 0), true), impl.CodeRange, asItIs},
	})
}

func TestIpcReplyWrittenOut(t *testing.T) {
	reply := func(thread int, msg uint32) ipcCall { return ipcCall{op: ipcReplies, thread: thread, msg: msg} }
	answered := func(msg uint32) func(k *impl.Kern) {
		return func(k *impl.Kern) {
			cutSlot(k, hallServer+4)
			ranIn(k, hallClient, 0, msg, 0)
			k.Ready[5] = []int{hallClient}
		}
	}
	checkIpcCases(t, kernHall(), []ipcCase{
		{"a reply", reply(hallServer, 78), impl.CodeOk, answered(78)},
		{"no word", reply(hallServer, 0), impl.CodeOk, answered(0)},
		{"the greatest word", reply(hallServer, 1<<32-1), impl.CodeOk, answered(1<<32 - 1)},
		{"who holds none", reply(hallPlain, 78), impl.CodeEmpty, asItIs},
		{"who waits, and holds one", reply(hallHolder, 78), impl.CodeRange, asItIs},
		{"who calls", reply(hallClient, 78), impl.CodeRange, asItIs},
		{"who does nothing", reply(hallIdle, 78), impl.CodeRange, asItIs},
		{"who has begun to take back", reply(hallBegun, 78), impl.CodeRange, asItIs},
		{"no thread", reply(hallEnd, 78), impl.CodeRange, asItIs},
		{"its caller", reply(hallServer+4, 78), impl.CodeRange, asItIs},
		{"none", reply(0, 78), impl.CodeRange, asItIs},
	})
}

func TestIpcSignalWrittenOut(t *testing.T) {
	signal := func(c impl.Cap) ipcCall { return ipcCall{op: ipcSignals, c: c} }
	word := func(place int, word int) func(k *impl.Kern) {
		return func(k *impl.Kern) {
			k.Notes[place] = impl.KernNote{At: hallNote + 4*place, Active: true, Word: word}
		}
	}
	heard := func(badge uint32) func(k *impl.Kern) {
		return func(k *impl.Kern) {
			k.Notes[1].List = []int{hallFirst}
			ranIn(k, hallSecond, 0, badge, 0)
			k.Ready[0] = []int{hallSecond}
		}
	}
	checkIpcCases(t, kernHall(), []ipcCase{
		{"nobody listens", signal(noteOf(hallNote, 2, 5)), impl.CodeOk, word(0, 5)},
		{"no badge", signal(noteOf(hallNote, 3, 0)), impl.CodeOk, word(0, 0)},
		{"by the original", signal(origOf(impl.CapNote, hallNote, 0)), impl.CodeOk, word(0, 0)},
		{"the greatest badge", signal(noteOf(hallNote, 2, 65535)), impl.CodeOk, word(0, 65535)},
		{"a word is there, with a bit of the badge", signal(noteOf(hallActive, 2, 12)), impl.CodeOk, word(2, 13)},
		{"with all bits of the badge", signal(noteOf(hallActive, 2, 8)), impl.CodeOk, asItIs},
		{"with no badge", signal(noteOf(hallActive, 2, 0)), impl.CodeOk, asItIs},
		{"the word is 0", signal(noteOf(hallZero, 2, 32768)), impl.CodeOk, word(3, 32768)},
		{"the first listener hears", signal(noteOf(hallListens, 2, 6)), impl.CodeOk, heard(6)},
		{"the first listener hears of no badge", signal(noteOf(hallListens, 3, 0)), impl.CodeOk, heard(0)},
		{"no right", signal(noteOf(hallNote, 1, 5)), impl.CodeRight, asItIs},
		{"no right, and others listen", signal(noteOf(hallListens, 0, 5)), impl.CodeRight, asItIs},
		{"no such notification", signal(noteOf(2040, 3, 5)), impl.CodeKind, asItIs},
		{"no such notification, and no right", signal(noteOf(2040, 1, 5)), impl.CodeKind, asItIs},
		{"where an endpoint is", signal(noteOf(hallEnd, 3, 5)), impl.CodeKind, asItIs},
		{"an endpoint", signal(endOf(hallEnd, 7, 5)), impl.CodeKind, asItIs},
		{"an endpoint where a notification is", signal(endOf(hallNote, 7, 5)), impl.CodeKind, asItIs},
		{"a frame", signal(frameOf(hallFrame, 2, 3)), impl.CodeKind, asItIs},
		{"nothing", signal(impl.Cap{}), impl.CodeRange, asItIs},
		{"too great a badge", signal(noteOf(hallNote, 3, 65536)), impl.CodeRange, asItIs},
	})
}

func TestIpcFaultWrittenOut(t *testing.T) {
	fault := func(thread int) ipcCall { return ipcCall{op: ipcFaults, thread: thread, msg: 3} }
	idle := func(thread int, prio int, list ...int) func(k *impl.Kern) {
		return func(k *impl.Kern) {
			stillIn(k, thread, impl.KernIdle)
			k.Ready[prio] = list
		}
	}
	checkIpcCases(t, kernHall(), []ipcCase{
		{"no handler", fault(hallPlain), 0, idle(hallPlain, 3, hallBare, hallServer)},
		{"no handler, no space", fault(hallBare), 0, idle(hallBare, 3, hallPlain, hallServer)},
		{"a handler that does not grant", fault(hallFaulty), 0, idle(hallFaulty, 1, hallCareful)},
		{"a handler at which nobody waits", fault(hallServer), 0, func(k *impl.Kern) {
			th := threadOf(k, hallServer)
			th.State, th.On, th.Badge, th.Msg, th.Flags = impl.KernSends, hallEnd, 70, 3, impl.KernCall
			k.Ends[0] = impl.KernEnd{At: hallEnd, Kind: 1, List: []int{hallServer}}
			k.Ready[3] = []int{hallBare, hallPlain}
		}},
		{"a handler at which one waits", fault(hallCareful), 0, func(k *impl.Kern) {
			stillIn(k, hallCareful, impl.KernCalls)
			ranIn(k, hallWaiter, 0, 3, 72)
			k.Ends[2].List = []int{hallHolder}
			k.Ready[1], k.Ready[3] = []int{hallFaulty}, []int{hallBare, hallPlain, hallServer, hallWaiter}
			putSlot(k, slotOfObject(*k, hallCareful), hallWaiter+4, copyOf(impl.CapReply, hallCareful, 0))
		}},
		{"who has begun to take back", fault(hallBegun), 0, asItIs},
		{"who waits", fault(hallHolder), 0, asItIs},
		{"who does nothing", fault(hallIdle), 0, asItIs},
		{"no thread", fault(hallNode), 0, asItIs},
	})
	k := kernHall()
	k.Ends[2].List = []int{hallHolder, hallWaiter}
	checkIpcCases(t, k, []ipcCase{
		{"a handler whose first has no room", fault(hallCareful), 0, func(k *impl.Kern) {
			stillIn(k, hallCareful, impl.KernIdle)
			ranIn(k, hallHolder, 0, 3, 72)
			k.Ends[2].List = []int{hallWaiter}
			k.Ready[1], k.Ready[2] = []int{hallFaulty}, []int{hallHolder}
		}},
	})
}

// A handler may have any rights: it takes a fault just if it has both that a call needs.
func TestIpcFaultHandlers(t *testing.T) {
	for rights := range 8 {
		for _, end := range []int{hallEnd, hallSent, hallWaited, hallLoneEnd, hallOneEnd} {
			k := kernHall()
			putSlot(&k, slotOfObject(k, end), hallPlain+8, endOf(end, rights, rights*100))
			got, _ := checkIpc(t, k, ipcCall{op: ipcFaults, thread: hallPlain, msg: 99})
			state := impl.KernIdle
			switch {
			case rights >= 6 && endAt(&k, end).Kind == 2:
				state = impl.KernCalls
			case rights >= 6:
				state = impl.KernSends
			}
			if th := threadOf(&got, hallPlain); th.State != state || th.Out != [3]uint32{5, 5, 5} {
				t.Error(rights, end, th)
			}
		}
	}
}

// Many states, and runs of all five by chance, so that what a call left is found by others.
func TestIpcAny(t *testing.T) {
	r := rand.New(rand.NewSource(130))
	codes := map[[2]int]int{}
	states := ipcStates()
	for i := range 260 {
		k := states[i%len(states)]
		switch i % 4 {
		case 0:
			k, _ = impl.BootMake(okPlan(r))
		case 1:
			k = anyKern(r, 40+r.Intn(60))
		case 2:
			k = kernHall()
		}
		for range 25 {
			for len(ableOf(k)) < 2 && r.Intn(4) > 0 {
				k = impl.ReadyWake(k, oneOf(r, threadsOf(k)))
			}
			if len(ableOf(k)) == 0 && r.Intn(3) == 0 {
				break
			}
			c := anyIpc(r, k)
			next, code := checkIpc(t, k, c)
			codes[[2]int{c.op, code}]++
			if m, met := c.meets(k, code); met && threadOf(&next, m.receiver).Out[0] == impl.CodeWithCap {
				codes[[2]int{c.op, impl.CodeWithCap}]++
			}
			k = next
		}
	}
	for op, list := range [][]int{
		{impl.CodeOk, impl.CodeKind, impl.CodeRight, impl.CodeRange, impl.CodeBusy, impl.CodeBlocked, impl.CodeDeep, impl.CodeWithCap},
		{impl.CodeKind, impl.CodeRight, impl.CodeRange, impl.CodeBusy, impl.CodeBlocked, impl.CodeServed, impl.CodeWithCap},
		{impl.CodeOk, impl.CodeRange, impl.CodeEmpty}, {impl.CodeOk, impl.CodeKind, impl.CodeRight, impl.CodeRange}, {impl.CodeOk},
	} {
		for _, code := range list {
			if codes[[2]int{op, code}] < 5 {
				t.Error("too few", op, code, codes)
			}
		}
	}
}
