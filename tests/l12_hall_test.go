package tests

import (
	"fmt"
	"math/rand"
	"slices"

	"loop.example/donjon/impl"
)

// The document's words on messages, written out anew.

// The five calls.
const (
	ipcSends = iota
	ipcRecvs
	ipcReplies
	ipcSignals
	ipcFaults
)

// ipcCall is one of the five, with its arguments behind the state; those that it has not are not looked at.
type ipcCall struct {
	op     int
	thread int
	c      impl.Cap
	msg    uint32
	xfer   uint32
	call   bool
	waits  bool
}

func (c ipcCall) String() string {
	return fmt.Sprintf("%s of %d by %+v word %d xfer %d call %v waits %v", []string{"send", "recv", "reply", "signal", "fault"}[c.op], c.thread, c.c, c.msg, c.xfer, c.call, c.waits)
}

// do answers CodeOk for a fault, which has no code.
func (c ipcCall) do(k impl.Kern) (impl.Kern, int) {
	switch c.op {
	case ipcSends:
		return impl.IpcSend(k, c.thread, c.c, c.msg, c.xfer, c.call, c.waits)
	case ipcRecvs:
		return impl.IpcRecv(k, c.thread, c.c, c.xfer, c.waits)
	case ipcReplies:
		return impl.IpcReply(k, c.thread, c.msg)
	case ipcSignals:
		return impl.IpcSignal(k, c.c)
	}
	return impl.IpcFault(k, c.thread, c.msg), 0
}

// wantMessage is who sends what.
type wantMessage struct {
	sender int
	badge  int
	word   uint32
	call   bool
	grant  bool
	xfer   uint32
}

func (m wantMessage) flags() int {
	flags := 0
	if m.call {
		flags = 1
	}
	if m.grant {
		flags += 2
	}
	return flags
}

// wantGoesOn lets a thread that stands in no list go on with an answer.
func wantGoesOn(k *impl.Kern, at int, out ...uint32) {
	wantTold(k, at)
	threadOf(k, at).Out = [3]uint32(out)
}

// wantStops lets a thread stand in no list, and have no message.
func wantStops(k *impl.Kern, at int, state int) {
	wantNowhere(k, at)
	th := threadOf(k, at)
	th.State = state
	th.On, th.Badge, th.Msg, th.Flags, th.Xfer = 0, 0, 0, 0, 0
}

func endAt(k *impl.Kern, at int) *impl.KernEnd {
	for i := range k.Ends {
		if k.Ends[i].At == at {
			return &k.Ends[i]
		}
	}
	return nil
}

func noteAt(k *impl.Kern, at int) *impl.KernNote {
	for i := range k.Notes {
		if k.Notes[i].At == at {
			return &k.Notes[i]
		}
	}
	return nil
}

// wantWaits lets a thread that runs wait at an endpoint.
func wantWaits(k *impl.Kern, at int, e *impl.KernEnd, kind int) {
	wantStops(k, at, kind+1)
	threadOf(k, at).On = e.At
	e.Kind = kind
	e.List = append(e.List, at)
}

// wantAlong lets a capability come along, if it can.
func wantAlong(k *impl.Kern, sender int, from uint32, receiver int, to uint32) bool {
	a, b := wantLookFrom(*k, sender, from), wantLookFrom(*k, receiver, to)
	if from == 0 || to == 0 || a.code != 0 || b.code != 0 {
		return false
	}
	w, code := wantHand(*k, handCall{handCopies, a.at, b.at, 7, 0})
	k.Slots = w.Slots
	return code == 0
}

// wantHeld puts a reply into a caller, if there is room.
func wantHeld(k *impl.Kern, sender int, receiver int) bool {
	original := slotOfObject(*k, sender)
	if slotOf(k, original).Depth == 12 || len(k.Slots) == 300 || placeOf(*k, receiver+4) >= 0 {
		return false
	}
	putSlot(k, original, receiver+4, impl.Cap{Kind: 7, Addr: sender})
	return true
}

// wantGive is the answer of a receiver, and whether a reply is held.
func wantGive(k *impl.Kern, m wantMessage, receiver int, xfer uint32) ([]uint32, bool) {
	out := []uint32{0, m.word, uint32(m.badge)}
	if m.grant && wantAlong(k, m.sender, m.xfer, receiver, xfer) {
		out[0] = 64
	}
	return out, m.call && wantHeld(k, m.sender, receiver)
}

// wantSendAt is for a message that may be sent; there is no room, if it is refused with CodeDeep.
func wantSendAt(k *impl.Kern, m wantMessage, e *impl.KernEnd, waits bool) int {
	switch {
	case e.Kind != 2 && !waits:
		return 12
	case e.Kind != 2:
		wantWaits(k, m.sender, e, 1)
		th := threadOf(k, m.sender)
		th.Badge, th.Msg, th.Flags, th.Xfer = m.badge, m.word, m.flags(), m.xfer
		return 15
	}
	receiver := *threadOf(k, e.List[0])
	wantNowhere(k, receiver.At)
	out, held := wantGive(k, m, receiver.At, receiver.Xfer)
	wantGoesOn(k, receiver.At, out...)
	switch {
	case held:
		wantStops(k, m.sender, 4)
		return 15
	case m.call:
		return 11
	}
	return 0
}

func wantSend(k *impl.Kern, c ipcCall) int {
	e := endAt(k, c.c.Addr)
	writes, grants := c.c.Rights/2%2 == 1, c.c.Rights/4%2 == 1
	switch {
	case c.c.Kind != 4 || e == nil:
		return 4
	case !writes || c.call && !grants:
		return 5
	}
	return wantSendAt(k, wantMessage{c.thread, c.c.Badge, c.msg, c.call, grants, c.xfer}, e, c.waits)
}

func wantListen(k *impl.Kern, c ipcCall) int {
	n := noteAt(k, c.c.Addr)
	switch {
	case n == nil:
		return 4
	case c.c.Rights%2 == 0:
		return 5
	case n.Active:
		threadOf(k, c.thread).Out = [3]uint32{0, uint32(n.Word), 0}
		n.Active, n.Word = false, 0
		return 16
	case !c.waits:
		return 12
	}
	wantStops(k, c.thread, 5)
	threadOf(k, c.thread).On = n.At
	n.List = append(n.List, c.thread)
	return 15
}

func wantRecv(k *impl.Kern, c ipcCall) int {
	e := endAt(k, c.c.Addr)
	switch {
	case c.c.Kind == 5:
		return wantListen(k, c)
	case c.c.Kind != 4 || e == nil:
		return 4
	case c.c.Rights%2 == 0:
		return 5
	}
	if placeOf(*k, c.thread+4) >= 0 {
		wantDrop(k, c.thread+4)
	}
	switch {
	case e.Kind != 1 && !c.waits:
		return 12
	case e.Kind != 1:
		wantWaits(k, c.thread, e, 2)
		threadOf(k, c.thread).Xfer = c.xfer
		return 15
	}
	s := *threadOf(k, e.List[0])
	wantStops(k, s.At, 4)
	out, held := wantGive(k, wantMessage{s.At, s.Badge, s.Msg, s.Flags%2 == 1, s.Flags/2 == 1, s.Xfer}, c.thread, c.xfer)
	threadOf(k, c.thread).Out = [3]uint32(out)
	switch {
	case s.Flags%2 == 0:
		wantGoesOn(k, s.At, 0, 0, 0)
	case !held:
		wantGoesOn(k, s.At, 11, 0, 0)
	}
	return 16
}

func wantReply(k *impl.Kern, c ipcCall) int {
	reply, held := heldAt(*k, c.thread+4)
	if !held {
		return 7
	}
	dropOf(k, c.thread+4)
	wantGoesOn(k, reply.Addr, 0, c.msg, 0)
	return 0
}

func wantSignal(k *impl.Kern, c ipcCall) int {
	n := noteAt(k, c.c.Addr)
	switch {
	case c.c.Kind != 5 || n == nil:
		return 4
	case c.c.Rights/2%2 == 0:
		return 5
	case len(n.List) == 0:
		n.Active = true
		n.Word |= c.c.Badge
		return 0
	}
	first := n.List[0]
	wantNowhere(k, first)
	wantGoesOn(k, first, 0, uint32(c.c.Badge), 0)
	return 0
}

func wantFault(k *impl.Kern, c ipcCall) {
	h, held := heldAt(*k, c.thread+8)
	if held && h.Rights/2 == 3 && wantSendAt(k, wantMessage{c.thread, h.Badge, c.msg, true, false, 0}, endAt(k, h.Addr), true) == 15 {
		return
	}
	wantStops(k, c.thread, 0)
}

// speaks says whether a thread can be the one that calls.
func speaks(k impl.Kern, thread int) bool {
	return slices.ContainsFunc(k.Threads, func(th impl.KernThread) bool { return th.At == thread && th.State == 1 && th.Pend == 0 })
}

// wantIpc is for a state that is ok.
func wantIpc(k impl.Kern, c ipcCall) (impl.Kern, int) {
	w := kernCopy(k)
	if c.op == ipcFaults {
		if speaks(k, c.thread) {
			wantFault(&w, c)
		}
		return w, 0
	}
	if c.op != ipcSignals && !speaks(k, c.thread) || c.op != ipcReplies && !wantCapOk(c.c) {
		return w, 8
	}
	code := []func(k *impl.Kern, c ipcCall) int{wantSend, wantRecv, wantReply, wantSignal}[c.op](&w, c)
	return w, code
}

// States in which threads speak.

// Who is who in kernHall.
const (
	hallPlain   = 256 // runs, with the whole hall as its space and nothing else
	hallServer  = 288 // runs, holds a reply, has a space with a guard, and a handler at which nobody stands
	hallClient  = 320 // calls; hallServer holds the reply
	hallBegun   = 352 // is ready, and has begun to take back
	hallWaiter  = 384 // waits at hallWaited, the first, with an Xfer
	hallHolder  = 416 // waits behind it, and holds a reply
	hallOther   = 448 // calls; hallHolder holds the reply
	hallGiver   = 480 // sends at hallSent, the first, and grants
	hallCaller  = 512 // calls at hallSent, and grants
	hallAsker   = 544 // calls at hallSent, and does not grant
	hallFirst   = 576 // listens, behind hallSecond
	hallSecond  = 608 // listens
	hallIdle    = 640 // does nothing
	hallBare    = 672 // runs, with no space and no handler
	hallLone    = 704 // waits at hallLoneEnd alone
	hallSender  = 736 // sends at hallOneEnd alone
	hallFaulty  = 768 // is ready, with a handler that does not grant
	hallCareful = 800 // is ready, with a handler at which others wait

	hallEnd     = 832 // nobody stands there
	hallSent    = 836 // three send
	hallWaited  = 840 // two wait
	hallLoneEnd = 844 // one waits
	hallOneEnd  = 848 // one sends
	hallNote    = 852 // a notification with nothing
	hallListens = 856 // two listen
	hallActive  = 860 // active, with 9
	hallZero    = 864 // active, with 0
	hallFrame   = 868

	hallNode = 1024 // the node that is the space of most
)

// hallAt is the slot of a place of the hall's node, and hallRef what names it there.
func hallAt(place int) int { return hallNode + 4*place }

func hallRef(place int) uint32 { return uint32(5<<16 | place) }

// kernHall is threads in all states, and endpoints and notifications of each kind. The node at 128 holds the originals for which the kernel's slots have no room. In the hall's node there are, from place 1 on: an endpoint, what came of it with a badge, a notification, a frame, a thread, the node itself, a region, the original of an endpoint, a copy of a copy; the places from 12 on are free.
func kernHall() impl.Kern {
	return impl.Kern{
		Bits:  11,
		Ticks: 12,
		Slots: hallSlots(),
		Threads: []impl.KernThread{
			{At: hallPlain, State: impl.KernRuns, Prio: 3, Max: 5, Slice: 3, Out: [3]uint32{5, 5, 5}},
			{At: hallServer, State: impl.KernRuns, Prio: 3, Max: 3, Slice: 4, Out: [3]uint32{6, 6, 6}},
			{At: hallClient, State: impl.KernCalls, Prio: 5, Slice: 2, Out: [3]uint32{7, 7, 7}},
			{At: hallBegun, State: impl.KernRuns, Prio: 6, Slice: 1, Pend: impl.KernDeletes, PendRef: hallRef(1)},
			{At: hallWaiter, State: impl.KernWaits, Prio: 3, Slice: 2, On: hallWaited, Xfer: hallRef(12), Out: [3]uint32{8, 8, 8}},
			{At: hallHolder, State: impl.KernWaits, Prio: 2, Slice: 3, On: hallWaited, Xfer: hallRef(13)},
			{At: hallOther, State: impl.KernCalls, Prio: 1, Max: 7, Slice: 4},
			{At: hallGiver, State: impl.KernSends, Prio: 3, Slice: 1, On: hallSent, Badge: 11, Msg: 1 << 31, Flags: impl.KernGrant, Xfer: hallRef(1)},
			{At: hallCaller, State: impl.KernSends, Prio: 4, Slice: 2, On: hallSent, Badge: 65535, Msg: 21, Flags: impl.KernGrant | impl.KernCall, Xfer: hallRef(2)},
			{At: hallAsker, State: impl.KernSends, Prio: 7, Slice: 3, On: hallSent, Msg: 22, Flags: impl.KernCall, Xfer: hallRef(1), Out: [3]uint32{9, 9, 9}},
			{At: hallFirst, State: impl.KernListens, Prio: 3, Slice: 4, On: hallListens},
			{At: hallSecond, State: impl.KernListens, Prio: 0, Slice: 4, On: hallListens, Out: [3]uint32{4, 4, 4}},
			{At: hallIdle, Prio: 2, Max: 2, Slice: 2, Out: [3]uint32{3, 3, 3}},
			{At: hallBare, State: impl.KernRuns, Prio: 3, Slice: 1},
			{At: hallLone, State: impl.KernWaits, Prio: 6, Slice: 3, On: hallLoneEnd},
			{At: hallSender, State: impl.KernSends, Prio: 1, Slice: 3, On: hallOneEnd, Badge: 3, Msg: 23, Out: [3]uint32{2, 2, 2}},
			{At: hallFaulty, State: impl.KernRuns, Prio: 1, Slice: 3, Out: [3]uint32{1, 1, 1}},
			{At: hallCareful, State: impl.KernRuns, Prio: 1, Max: 1, Slice: 2},
		},
		Ends: []impl.KernEnd{
			{At: hallEnd}, {At: hallSent, Kind: 1, List: []int{hallGiver, hallCaller, hallAsker}}, {At: hallWaited, Kind: 2, List: []int{hallWaiter, hallHolder}},
			{At: hallLoneEnd, Kind: 2, List: []int{hallLone}}, {At: hallOneEnd, Kind: 1, List: []int{hallSender}},
		},
		Notes:  []impl.KernNote{{At: hallNote}, {At: hallListens, List: []int{hallSecond, hallFirst}}, {At: hallActive, Active: true, Word: 9}, {At: hallZero, Active: true}},
		Frames: []impl.KernFrame{{At: hallFrame, Data: []uint32{1, 2, 3, 4}}},
		Ready:  [8][]int{1: {hallFaulty, hallCareful}, 3: {hallBare, hallPlain, hallServer}, 6: {hallBegun}},
	}
}

func hallSlots() []impl.TreeSlot {
	k := impl.Kern{Slots: []impl.TreeSlot{{At: 64, Cap: origOf(impl.CapNode, 128, 5)}, {At: 68, Cap: origOf(impl.CapNode, hallNode, 5)}}}
	at := 72
	put := func(c impl.Cap) {
		putSlot(&k, 0, at, c)
		at += 4
	}
	for thread := hallPlain; thread <= hallCareful; thread += 32 {
		put(origOf(impl.CapThread, thread, 0))
	}
	for end := hallSent; end <= hallOneEnd; end += 4 {
		put(origOf(impl.CapEnd, end, 0))
	}
	for note := hallNote; note <= hallZero; note += 4 {
		put(origOf(impl.CapNote, note, 0))
	}
	put(origOf(impl.CapFrame, hallFrame, 2))
	putSlot(&k, 0, hallAt(8), origOf(impl.CapEnd, hallEnd, 0))
	putSlot(&k, 0, hallAt(7), regionOf(512+1024, 6, 0))
	putSlot(&k, hallAt(8), hallAt(1), endOf(hallEnd, 7, 0))
	putSlot(&k, hallAt(1), hallAt(2), endOf(hallEnd, 3, 9))
	putSlot(&k, hallAt(2), hallAt(9), endOf(hallEnd, 2, 9))
	putSlot(&k, slotOfObject(k, hallNote), hallAt(3), noteOf(hallNote, 3, 0))
	putSlot(&k, slotOfObject(k, hallFrame), hallAt(4), frameOf(hallFrame, 2, 3))
	putSlot(&k, slotOfObject(k, hallPlain), hallAt(5), copyOf(impl.CapThread, hallPlain, 0))
	putSlot(&k, 68, hallAt(6), copyOf(impl.CapNode, hallNode, 5))
	for _, thread := range []int{hallPlain, hallWaiter, hallHolder, hallGiver, hallCaller, hallAsker, hallLone, hallCareful} {
		putSlot(&k, 68, thread, copyOf(impl.CapNode, hallNode, 5))
	}
	putSlot(&k, 68, hallServer, guarded(hallNode, 5, "10"))
	putSlot(&k, slotOfObject(k, hallClient), hallServer+4, copyOf(impl.CapReply, hallClient, 0))
	putSlot(&k, slotOfObject(k, hallOther), hallHolder+4, copyOf(impl.CapReply, hallOther, 0))
	putSlot(&k, hallAt(8), hallServer+8, endOf(hallEnd, 6, 70))
	putSlot(&k, hallAt(8), hallFaulty+8, endOf(hallEnd, 3, 71))
	putSlot(&k, slotOfObject(k, hallWaited), hallCareful+8, endOf(hallWaited, 7, 72))
	return k.Slots
}

// Who is who in a state that kernPair makes.
const (
	pairSender   = 2048
	pairReceiver = 1664
	pairClient   = 1696 // calls; the receiver may hold the reply
	pairEnd      = 1728
	pairFrom     = 1540 // what the sender names
	pairTo       = 1544 // what the receiver names; it is free
)

// pairPlan is how a sender and a receiver stand: how deep the original of the sender is, how many slots there are (at least), whether the receiver holds a reply, and who waits already.
type pairPlan struct {
	depth  int
	slots  int
	held   bool
	sends  bool // the sender waits, with these flags
	flags  int
	awaits bool // the receiver waits
}

// kernPair is a state for a message that a capability can come along with.
func kernPair(p pairPlan) impl.Kern {
	sender := impl.KernThread{At: pairSender, State: impl.KernRuns, Prio: 2, Slice: 4, Out: [3]uint32{1, 2, 3}}
	receiver := impl.KernThread{At: pairReceiver, State: impl.KernRuns, Prio: 2, Slice: 4, Out: [3]uint32{4, 5, 6}}
	client := impl.KernThread{At: pairClient, Prio: 1, Slice: 4}
	k := impl.Kern{Bits: 12, Ends: []impl.KernEnd{{At: pairEnd}, {At: pairEnd + 4}}}
	for i := range 12 {
		putSlot(&k, 0, 64+4*i, origOf(impl.CapNode, 128+128*i, 5))
	}
	putSlot(&k, 64+4*11, pairReceiver, copyOf(impl.CapNode, 1536, 5))
	putSlot(&k, 64+4*11, pairSender, copyOf(impl.CapNode, 1536, 5))
	putSlot(&k, 0, 112, origOf(impl.CapThread, pairReceiver, 0))
	putSlot(&k, 0, 116, origOf(impl.CapThread, pairClient, 0))
	putSlot(&k, 0, 120, origOf(impl.CapEnd, pairEnd, 0))
	putSlot(&k, 120, pairFrom, endOf(pairEnd, 5, 0))
	putSlot(&k, 120, pairSender+8, endOf(pairEnd, 6, 8))
	deepRegions(&k, pairSender, p.depth, 124, 128, origOf(impl.CapThread, pairSender, 0))
	if p.held {
		putSlot(&k, 116, pairReceiver+4, copyOf(impl.CapReply, pairClient, 0))
		client.State = impl.KernCalls
	}
	putSlot(&k, 0, 200, origOf(impl.CapEnd, pairEnd+4, 0))
	for at := 204; len(k.Slots) < p.slots; at += 4 {
		k.Slots = append(k.Slots, impl.TreeSlot{At: at, Cap: endOf(pairEnd+4, 1, at), Depth: 1})
	}
	if p.sends {
		sender.State, sender.On, sender.Badge, sender.Msg, sender.Flags, sender.Xfer = impl.KernSends, pairEnd, 8, 77, p.flags, hallRef(1)
		k.Ends[0].Kind, k.Ends[0].List = 1, []int{pairSender}
	} else {
		k.Ready[2] = append(k.Ready[2], pairSender)
	}
	if p.awaits {
		receiver.State, receiver.On, receiver.Xfer = impl.KernWaits, pairEnd, hallRef(2)
		k.Ends[0].Kind, k.Ends[0].List = 2, []int{pairReceiver}
	} else {
		k.Ready[2] = append(k.Ready[2], pairReceiver)
	}
	k.Threads = []impl.KernThread{receiver, client, sender}
	return k
}

// ipcStates is the states that are written out.
func ipcStates() []impl.Kern {
	return []impl.Kern{
		kernHall(), kernHouse(), kernFull(), kernHands(), kernSmall(), kernSpaces(), kernYard(), kernOneNode(3), {Bits: 9}, {Bits: 12, Ticks: 1000000},
		kernQueues([7]int{1, 3, 2, 4, 3, 3, 1}, false), kernQueues([7]int{0, 2, 2, 1, 2, 1, 4}, true),
		kernPair(pairPlan{awaits: true}), kernPair(pairPlan{depth: 12, slots: 300, held: true, awaits: true}), kernPair(pairPlan{depth: 11, slots: 299, held: true, sends: true, flags: 3}),
	}
}

// anyEnds is capabilities of each endpoint and notification of a state, with all rights and a badge by chance, and now and then something else.
func anyEnds(r *rand.Rand, k impl.Kern) []impl.Cap {
	var list []impl.Cap
	for _, e := range k.Ends {
		list = append(list, endOf(e.At, 7, 1+r.Intn(65535)))
	}
	for _, n := range k.Notes {
		list = append(list, noteOf(n.At, 3, 1+r.Intn(65535)))
	}
	if len(k.Slots) > 0 && (len(list) == 0 || r.Intn(10) == 0) {
		list = append(list, k.Slots[r.Intn(len(k.Slots))].Cap)
	}
	return append(list, impl.Cap{Kind: 4 + r.Intn(2), Addr: 4 * r.Intn(1023), Rights: 3})
}

// ableOf is the threads that can be the ones that call.
func ableOf(k impl.Kern) []int {
	return slices.DeleteFunc(threadsOf(k), func(at int) bool { return !speaks(k, at) })
}

// anyRef is a reference by chance, mostly one that names a slot, which holds something or not.
func anyRef(r *rand.Rand, k impl.Kern, thread int, holds bool) uint32 {
	space, held := heldAt(k, thread)
	if !held {
		return uint32(r.Intn(3)) * hallRef(1)
	}
	ref := uint32(0)
	for range 1 + r.Intn(12) {
		if bits := walkBits(r, k, space); bits != "" {
			ref = refOf(bits)
		}
		if found := wantLookFrom(k, thread, ref); found.code == 0 && (placeOf(k, found.at) >= 0) == holds {
			break
		}
	}
	return ref
}

// anyIpc is a call of a state by chance: mostly of a thread that runs, at an object that there is, with an Xfer that names a slot.
func anyIpc(r *rand.Rand, k impl.Kern) ipcCall {
	c := ipcCall{op: []int{0, 0, 0, 0, 1, 1, 1, 1, 1, 1, 2, 2, 3, 4}[r.Intn(14)], msg: r.Uint32(), call: r.Intn(2) == 0, waits: r.Intn(4) > 0}
	c.thread = oneOf(r, ableOf(k))
	if r.Intn(12) == 0 {
		c.thread = oneOf(r, kernAsked(k))
	}
	ends := anyEnds(r, k)
	c.c = ends[r.Intn(max(1, len(ends)-1))]
	if r.Intn(12) == 0 {
		c.c = ends[len(ends)-1]
	}
	if r.Intn(5) == 0 {
		c.c.Rights &= r.Intn(8)
	}
	if r.Intn(8) > 0 {
		c.xfer = anyRef(r, k, c.thread, c.op == ipcSends)
	}
	if r.Intn(20) == 0 {
		c.c.Badge = []int{-1, 65536, 0}[r.Intn(3)]
	}
	return c
}
