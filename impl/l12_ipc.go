package impl

import "sync"

// ipcHas says whether all of some bits are among others: flags, or rights.
func ipcHas(bits int, all int) bool { return bits&all == all }

// ipcMessage is what goes over from a sender to a receiver: the thread that sends, with what it sends, and the slot that it names, or 0.
type ipcMessage struct {
	sender KernThread
	slot   int
}

// ipcMeeting is where a sender and a receiver meet. Just one of the last two is ever closed, so who waits for both has no choice.
type ipcMeeting struct {
	message  chan ipcMessage
	held     chan struct{} // closed when the receiver holds a reply
	released chan struct{} // closed when it holds none
}

// ipcGiven is what a message leaves that was given: the tree, and the answer of the receiver.
type ipcGiven struct {
	tree []TreeSlot
	out  [3]uint32
}

// ipcReply lets a thread go on that waits, with an answer.
type ipcReply func(out [3]uint32)

// ipcHouse is a state in which threads speak with each other, how it was found and how it is by now. What it is now is its own to change.
type ipcHouse struct {
	*kernView
	now   *Kern
	ready *readyScheduler
}

func ipcHouseOf(found *kernView, now *Kern) *ipcHouse {
	return &ipcHouse{kernView: found, now: now, ready: readyOf(now)}
}

// ipcDone is what a call leaves of a state, and its code.
func ipcDone(k Kern, call func(h *ipcHouse) int) (Kern, int) {
	v := kernViewOf(k)
	if v == nil {
		return Kern{}, CodeRange
	}
	now := kernCopy(k)
	h := ipcHouseOf(v, &now)
	code := call(h)
	h.ready.done()
	return *h.now, code
}

// ipcNamed is the object of a kind that a capability names, out of the list of its kind; a code, if it names none, or has not the rights.
func ipcNamed[T kernObject](list []T, kind int, c Cap, rights int) (*T, int) {
	place, there := kernPlace(list, c.Addr)
	switch {
	case c.Kind != kind || !there:
		return nil, CodeKind
	case !ipcHas(c.Rights, rights):
		return nil, CodeRight
	}
	return &list[place], CodeOk
}

// speaks says whether a thread can be the one that calls.
func (h *ipcHouse) speaks(thread int) bool {
	m, there := h.threads[thread]
	return there && m.thread.State == KernRuns && m.thread.Pend == 0
}

// sender is a thread with what it sends.
func (h *ipcHouse) sender(thread int, badge int, msg uint32, flags int, xfer uint32) KernThread {
	t := h.threads[thread].thread
	t.Badge, t.Msg, t.Flags, t.Xfer = badge, msg, flags, xfer
	return t
}

// receiver is a thread with what it waits for.
func (h *ipcHouse) receiver(thread int, xfer uint32) KernThread {
	t := h.threads[thread].thread
	t.Xfer = xfer
	return t
}

// first takes the first out of a list in which threads wait.
func (h *ipcHouse) first(list []int) *readyMember {
	m := h.ready.member(list[0])
	reapUnqueued(h.now, *m.KernThread)
	return m
}

// replyTo is the reply to a thread that stands in no list any more. Called again it does nothing, as a thread that went on twice would be ready twice.
func (h *ipcHouse) replyTo(thread int) ipcReply {
	var once sync.Once
	return func(out [3]uint32) {
		once.Do(func() {
			m := h.ready.member(thread)
			m.Out = out
			h.ready.goOn(m)
		})
	}
}

// stop takes a thread from those that are ready, into a state in which it has no message.
func (h *ipcHouse) stop(thread int, state int) {
	m := h.ready.member(thread)
	h.ready.leave(m)
	m.still(state)
}

// wait lets a thread that is ready wait at an endpoint, of which all in the list then do the same.
func (h *ipcHouse) wait(t KernThread, state int, e *KernEnd, kind int) int {
	m := h.ready.member(t.At)
	h.ready.leave(m)
	*m.KernThread = t
	m.State, m.On = state, e.At
	e.Kind, e.List = kind, append(e.List, t.At)
	return CodeBlocked
}

// named is the slot that a thread names for what comes along; 0, which is no slot of a node, if it names none. (A reference of 0 names nothing.)
func (h *ipcHouse) named(t KernThread) int {
	at, _ := h.lookFrom(t.At, t.Xfer)
	return at
}

// offer is what a sender does at a meeting; it hears whether a reply to it is held.
func (h *ipcHouse) offer(sender KernThread, at ipcMeeting) bool {
	at.message <- ipcMessage{sender: sender, slot: h.named(sender)}
	select {
	case <-at.held:
		return true
	case <-at.released:
		return false
	}
}

// take is what a receiver does at a meeting.
func (h *ipcHouse) take(receiver KernThread, at ipcMeeting) ipcGiven {
	m := <-at.message
	given := ipcGiven{tree: h.now.Slots, out: [3]uint32{CodeOk, m.sender.Msg, uint32(m.sender.Badge)}}
	if ipcHas(m.sender.Flags, KernGrant) {
		if tree, err := h.handedOn(m.slot, h.named(receiver), handCopied(CapReads|CapWrites|CapGrants), handPut); err == nil {
			given.tree, given.out[0] = tree, CodeWithCap
		}
	}
	if ipcHas(m.sender.Flags, KernCall) {
		if tree, room := h.replyPut(given.tree, m.sender.At, receiver.At); room {
			given.tree = tree
			close(at.held)
			return given
		}
	}
	close(at.released)
	return given
}

// replyPut puts a reply to a sender into the caller of a receiver. There is no room for it just where that would be no tree: it would be too deep or too large, or have the caller twice.
func (h *ipcHouse) replyPut(tree []TreeSlot, sender int, receiver int) ([]TreeSlot, bool) {
	original := h.k.Slots[h.objects[CapThread][sender]]
	reply := TreeSlot{At: receiver + kernCallerAt, Cap: Cap{Kind: CapReply, Addr: sender}}
	return TreePut(tree, TreeFind(tree, original.At), reply)
}

// give lets a sender and a receiver meet, each in a goroutine of its own; it answers what the receiver is answered, and whether a reply is held. As both only read, what they leave is the same however they take turns.
func (h *ipcHouse) give(sender KernThread, receiver KernThread) ([3]uint32, bool) {
	at := ipcMeeting{message: make(chan ipcMessage), held: make(chan struct{}), released: make(chan struct{})}
	left, held := make(chan ipcGiven), make(chan bool)
	go func() { held <- h.offer(sender, at) }()
	go func() { left <- h.take(receiver, at) }()
	given, waits := <-left, <-held
	h.now.Slots = given.tree
	return given.out, waits
}

// send is for a thread that is ready.
func (h *ipcHouse) send(sender KernThread, e *KernEnd, waits bool) int {
	switch {
	case e.Kind == kernEndWaits:
		return h.sendTo(h.first(e.List), sender)
	case waits:
		return h.wait(sender, KernSends, e, kernEndSends)
	}
	return CodeBusy
}

func (h *ipcHouse) sendTo(receiver *readyMember, sender KernThread) int {
	out, held := h.give(sender, *receiver.KernThread)
	h.replyTo(receiver.At)(out)
	switch {
	case held:
		h.stop(sender.At, KernCalls)
		return CodeBlocked
	case ipcHas(sender.Flags, KernCall):
		return CodeDeep
	}
	return CodeOk
}

// receive is for a thread that is ready.
func (h *ipcHouse) receive(receiver KernThread, e *KernEnd, waits bool) int {
	switch {
	case e.Kind == kernEndSends:
		return h.receiveFrom(h.first(e.List), receiver)
	case waits:
		return h.wait(receiver, KernWaits, e, kernEndWaits)
	}
	return CodeBusy
}

func (h *ipcHouse) receiveFrom(sender *readyMember, receiver KernThread) int {
	out, held := h.give(*sender.KernThread, receiver)
	h.ready.member(receiver.At).Out = out
	switch {
	case held:
		sender.still(KernCalls)
	case ipcHas(sender.Flags, KernCall):
		h.replyTo(sender.At)([3]uint32{CodeDeep})
	default:
		h.replyTo(sender.At)([3]uint32{CodeOk})
	}
	return CodeServed
}

// listen is for a thread that is ready.
func (h *ipcHouse) listen(thread int, n *KernNote, waits bool) int {
	switch {
	case n.Active:
		h.ready.member(thread).Out = [3]uint32{CodeOk, uint32(n.Word)}
		n.Active, n.Word = false, 0
		return CodeServed
	case waits:
		h.stop(thread, KernListens)
		h.ready.member(thread).On = n.At
		n.List = append(n.List, thread)
		return CodeBlocked
	}
	return CodeBusy
}

// dropReply drops what the caller of a thread holds; the house is looked at anew then. Endpoints stay where they are by it.
func (h *ipcHouse) dropReply(thread int) {
	place, held := h.places[thread+kernCallerAt]
	if !held {
		return
	}
	r := &reaping{kernTree: h.kernTree, k: *h.now}
	r.drop(place)
	*h = *ipcHouseOf(kernViewOf(r.k), &r.k)
}

// reply is for a thread that is ready.
func (h *ipcHouse) reply(thread int, msg uint32) int {
	place, held := h.places[thread+kernCallerAt]
	if !held {
		return CodeEmpty
	}
	caller := h.k.Slots[place].Cap.Addr
	h.now.Slots, _ = TreeCut(h.now.Slots, place)
	h.replyTo(caller)([3]uint32{CodeOk, msg})
	return CodeOk
}

func (h *ipcHouse) signal(n *KernNote, badge int) {
	if len(n.List) == 0 {
		n.Active, n.Word = true, n.Word|badge
		return
	}
	h.replyTo(h.first(n.List).At)([3]uint32{CodeOk, uint32(badge)})
}

// fault sends to the handler of a thread that is ready; where nobody there can let it go on, it does nothing any more.
func (h *ipcHouse) fault(thread int, msg uint32) {
	c, _ := h.slotCap(thread + kernHandlerAt)
	e, code := ipcNamed(h.now.Ends, CapEnd, c, CapWrites|CapGrants)
	if code == CodeOk {
		code = h.send(h.sender(thread, c.Badge, msg, KernCall, 0), e, true)
	}
	if code != CodeBlocked {
		h.stop(thread, KernIdle)
	}
}

// ipcCallBits is the flag and the right of a message, if it is a call.
func ipcCallBits(call bool) (flag int, right int) {
	if call {
		return KernCall, CapGrants
	}
	return 0, 0
}

// IpcSend lets a thread send.
func IpcSend(k Kern, thread int, c Cap, msg uint32, xfer uint32, call bool, waits bool) (Kern, int) {
	return ipcDone(k, func(h *ipcHouse) int {
		if !h.speaks(thread) || !CapOk(c) {
			return CodeRange
		}
		flags, right := ipcCallBits(call)
		e, code := ipcNamed(h.now.Ends, CapEnd, c, CapWrites|right)
		if code != CodeOk {
			return code
		}
		if ipcHas(c.Rights, CapGrants) {
			flags |= KernGrant
		}
		return h.send(h.sender(thread, c.Badge, msg, flags, xfer), e, waits)
	})
}

// IpcRecv lets a thread receive.
func IpcRecv(k Kern, thread int, c Cap, xfer uint32, waits bool) (Kern, int) {
	return ipcDone(k, func(h *ipcHouse) int {
		if !h.speaks(thread) || !CapOk(c) {
			return CodeRange
		}
		if c.Kind == CapNote {
			n, code := ipcNamed(h.now.Notes, CapNote, c, CapReads)
			if code != CodeOk {
				return code
			}
			return h.listen(thread, n, waits)
		}
		e, code := ipcNamed(h.now.Ends, CapEnd, c, CapReads)
		if code != CodeOk {
			return code
		}
		h.dropReply(thread)
		return h.receive(h.receiver(thread, xfer), e, waits)
	})
}

// IpcReply lets a thread reply.
func IpcReply(k Kern, thread int, msg uint32) (Kern, int) {
	return ipcDone(k, func(h *ipcHouse) int {
		if !h.speaks(thread) {
			return CodeRange
		}
		return h.reply(thread, msg)
	})
}

// IpcSignal gives notice.
func IpcSignal(k Kern, c Cap) (Kern, int) {
	return ipcDone(k, func(h *ipcHouse) int {
		if !CapOk(c) {
			return CodeRange
		}
		n, code := ipcNamed(h.now.Notes, CapNote, c, CapWrites)
		if code == CodeOk {
			h.signal(n, c.Badge)
		}
		return code
	})
}

// IpcFault is a fault of a thread.
func IpcFault(k Kern, thread int, msg uint32) Kern {
	left, _ := ipcDone(k, func(h *ipcHouse) int {
		if h.speaks(thread) {
			h.fault(thread, msg)
		}
		return CodeOk
	})
	return left
}
