package tests

import (
	"fmt"
	"math"
	"math/rand"
	"reflect"
	"runtime"
	"slices"
	"sync"
	"testing"
	"time"

	"loop.example/donjon/impl"
)

// endCounts is the states of kernQueues with the given threads at an endpoint that sends, at one that waits, and at two notifications.
func endCounts(tell func(k impl.Kern, sends int, waits int, listens int)) {
	for n := range 32 {
		sends, waits, listens := n%4, n/4%4, n/16*2
		tell(kernQueues([7]int{1, 2, 1, sends, waits, listens, 1}, n%2 == 0), sends, waits, listens)
	}
}

// Promise 24, by each of the five at each endpoint and each notification, with nobody there and with some; by all threads, those that may and those that may not; with and without something in their caller and in their handler.
func TestIpcPromise24(t *testing.T) {
	r := rand.New(rand.NewSource(131))
	states := []impl.Kern{kernHall(), kernHouse(), kernFull(), kernHands()}
	endCounts(func(k impl.Kern, _ int, _ int, _ int) { states = append(states, k) })
	for range 12 {
		states = append(states, anyKern(r, 90))
	}
	calls := 0
	for _, k := range states {
		caps := anyEnds(r, k)
		for _, thread := range append(threadsOf(k), 0, 132) {
			checkIpc(t, k, ipcCall{op: ipcReplies, thread: thread, msg: 31})
			checkIpc(t, k, ipcCall{op: ipcFaults, thread: thread, msg: 32})
			if !speaks(k, thread) && r.Intn(4) > 0 {
				continue
			}
			for _, c := range caps {
				for way := range 4 {
					checkIpc(t, k, ipcCall{ipcSends, thread, c, 33, anyRef(r, k, thread, true), way%2 == 0, way < 2})
					calls++
				}
				checkIpc(t, k, ipcCall{ipcRecvs, thread, c, 0, anyRef(r, k, thread, false), false, true})
				checkIpc(t, k, ipcCall{ipcRecvs, thread, c, 0, 0, false, false})
			}
		}
		for _, c := range caps {
			checkIpc(t, k, ipcCall{op: ipcSignals, c: c})
		}
	}
	if calls < 1500 {
		t.Error("too few calls", calls)
	}
}

// Each thread that sends is taken once, in the order of the List; and each that waits takes one message.
func TestIpcPromise25(t *testing.T) {
	for size := range 5 {
		for _, turn := range []bool{false, true} {
			k := kernQueues([7]int{1, 2, 1, size, size, 1, 1}, turn)
			runs := k.Ready[3][0]
			for i, sender := range k.Ends[0].List {
				th := threadOf(&k, sender)
				th.Badge, th.Msg, th.Flags = 100+i, uint32(200+i), i%2*impl.KernGrant
			}
			got := k
			for i, sender := range k.Ends[0].List {
				code := 0
				got, code = checkIpc(t, got, ipcCall{op: ipcRecvs, thread: runs, c: endOf(128, 1, 0)})
				out, again := threadOf(&got, runs).Out, threadOf(&got, sender)
				if code != impl.CodeServed || out != [3]uint32{0, uint32(200 + i), uint32(100 + i)} || again.State != impl.KernRuns || again.Msg != 0 {
					t.Fatal(size, i, code, out, again)
				}
			}
			if _, code := checkIpc(t, got, ipcCall{op: ipcRecvs, thread: runs, c: endOf(128, 1, 0)}); code != impl.CodeBusy || got.Ends[0].Kind != 0 {
				t.Fatal(size, code, got.Ends)
			}
			for i, receiver := range k.Ends[1].List {
				code := 0
				got, code = checkIpc(t, got, ipcCall{op: ipcSends, thread: runs, c: endOf(132, 2, 40+i), msg: uint32(50 + i)})
				if out := threadOf(&got, receiver).Out; code != impl.CodeOk || out != [3]uint32{0, uint32(50 + i), uint32(40 + i)} {
					t.Fatal(size, i, code, out)
				}
			}
			if _, code := checkIpc(t, got, ipcCall{op: ipcSends, thread: runs, c: endOf(132, 2, 0)}); code != impl.CodeBusy || got.Ends[1].Kind != 0 {
				t.Fatal(size, code, got.Ends)
			}
		}
	}
}

// What is told while nobody listens is kept, each bit of it, till it is heard once.
func TestIpcSignalsAreKept(t *testing.T) {
	r := rand.New(rand.NewSource(132))
	for range 60 {
		k := kernHall()
		bits := 0
		for range r.Intn(6) {
			badge := r.Intn(65536) & r.Intn(65536) & r.Intn(65536)
			bits |= badge
			k, _ = checkIpc(t, k, ipcCall{op: ipcSignals, c: noteOf(hallNote, 2, badge)})
			if n := k.Notes[0]; !n.Active || n.Word != bits {
				t.Fatal(badge, bits, n)
			}
			// What others do meanwhile does not turn it.
			k, _ = checkIpc(t, k, ipcCall{op: ipcSignals, c: noteOf(hallActive, 2, r.Intn(65536))})
			k = impl.ReadyTick(k)
		}
		told := k.Notes[0].Active
		k, code := checkIpc(t, k, ipcCall{op: ipcRecvs, thread: hallPlain, c: noteOf(hallNote, 1, 7)})
		if told != (code == impl.CodeServed) || k.Notes[0].Active || k.Notes[0].Word != 0 {
			t.Fatal(told, code, k.Notes[0])
		}
		if out := threadOf(&k, hallPlain).Out; told && out != [3]uint32{0, uint32(bits), 0} {
			t.Fatal(bits, out)
		}
		if _, code := checkIpc(t, k, ipcCall{op: ipcRecvs, thread: hallPlain, c: noteOf(hallNote, 1, 7)}); code != impl.CodeBusy {
			t.Fatal("heard twice", code)
		}
	}
	// Each bit by itself.
	k := kernHall()
	for bit := range 16 {
		k, _ = checkIpc(t, k, ipcCall{op: ipcSignals, c: noteOf(hallNote, 2, 1<<bit)})
		if k.Notes[0].Word != 1<<(bit+1)-1 {
			t.Fatal(bit, k.Notes[0])
		}
	}
	// Who listens is told one behind the other; the third notice is kept.
	for i, at := range []int{hallSecond, hallFirst} {
		k, _ = checkIpc(t, k, ipcCall{op: ipcSignals, c: noteOf(hallListens, 2, 60+i)})
		if out := threadOf(&k, at).Out; out != [3]uint32{0, uint32(60 + i), 0} || k.Notes[1].Active {
			t.Fatal(i, out, k.Notes[1])
		}
	}
	if k, _ = checkIpc(t, k, ipcCall{op: ipcSignals, c: noteOf(hallListens, 2, 62)}); !k.Notes[1].Active || k.Notes[1].Word != 62 {
		t.Fatal(k.Notes[1])
	}
}

// calledHall is kernHall where hallPlain has called hallLone, by the way that is asked for: who came first, and whether it was a fault.
func calledHall(t *testing.T, receives bool, faults bool) impl.Kern {
	t.Helper()
	k := kernHall()
	putSlot(&k, slotOfObject(k, hallLoneEnd), hallPlain+8, endOf(hallLoneEnd, 6, 17))
	send := ipcCall{op: ipcSends, thread: hallPlain, c: endOf(hallLoneEnd, 6, 17), msg: 1234, call: true, waits: true}
	if faults {
		send = ipcCall{op: ipcFaults, thread: hallPlain, msg: 1234}
	}
	if receives {
		k, _ = checkIpc(t, k, send)
	} else {
		stillIn(&k, hallLone, impl.KernRuns)
		k.Ready[6] = append(k.Ready[6], hallLone)
		k.Ends[3] = impl.KernEnd{At: hallLoneEnd}
		k, _ = checkIpc(t, k, send)
		if th := threadOf(&k, hallPlain); th.State != impl.KernSends || th.Msg != 1234 || th.Badge != 17 {
			t.Fatal("it does not wait as a sender", th)
		}
		code := 0
		if k, code = checkIpc(t, k, ipcCall{op: ipcRecvs, thread: hallLone, c: endOf(hallLoneEnd, 1, 99)}); code != impl.CodeServed {
			t.Fatal(code)
		}
	}
	if th := threadOf(&k, hallPlain); th.State != impl.KernCalls || th.Out != [3]uint32{5, 5, 5} || slices.Contains(k.Ready[3], hallPlain) {
		t.Fatal("it does not wait for the reply", th)
	}
	if out := threadOf(&k, hallLone).Out; out != [3]uint32{0, 1234, 17} {
		t.Fatal("what was sent is not what was received", out)
	}
	reply := slices.IndexFunc(k.Slots, func(s impl.TreeSlot) bool { return s.Cap == copyOf(impl.CapReply, hallPlain, 0) })
	if reply < 0 || k.Slots[reply].At != hallLone+4 || k.Slots[upOf(k.Slots, reply)].At != slotOfObject(k, hallPlain) {
		t.Fatal("the reply is not where it should be", k.Slots)
	}
	return k
}

// Who calls waits for the reply until it goes on: by a reply, by the reply being taken back, by the end of who holds it, by its next receiving.
func TestIpcPromise26(t *testing.T) {
	gone := [3]uint32{impl.CodeGone, 0, 0}
	ends := []struct {
		name string
		do   func(k impl.Kern) impl.Kern
		out  [3]uint32
	}{
		{"a reply", func(k impl.Kern) impl.Kern { k, _ = impl.IpcReply(k, hallLone, 4321); return k }, [3]uint32{0, 4321, 0}},
		{"taking the reply back", func(k impl.Kern) impl.Kern { k, _ = impl.ReapOne(k, hallLone+4); return k }, gone},
		{"the end of who holds it", func(k impl.Kern) impl.Kern { k, _ = impl.ReapRun(k, slotOfObject(k, hallLone), true, 9); return k }, gone},
		{"the next receiving, with a message", func(k impl.Kern) impl.Kern {
			k, _ = impl.IpcRecv(k, hallLone, endOf(hallSent, 1, 0), 0, true)
			return k
		}, gone},
		{"the next receiving, with a call", func(k impl.Kern) impl.Kern {
			k.Ends[1].List = []int{hallCaller, hallAsker, hallGiver}
			k, _ = impl.IpcRecv(k, hallLone, endOf(hallSent, 1, 0), 0, true)
			return k
		}, gone},
		{"the next receiving, that waits", func(k impl.Kern) impl.Kern {
			k, _ = impl.IpcRecv(k, hallLone, endOf(hallEnd, 1, 0), 0, true)
			return k
		}, gone},
		{"the next receiving, that does not wait", func(k impl.Kern) impl.Kern {
			k, _ = impl.IpcRecv(k, hallLone, endOf(hallEnd, 1, 0), 0, false)
			return k
		}, gone},
	}
	for way := range 4 {
		for _, end := range ends {
			k := end.do(calledHall(t, way%2 == 0, way/2 == 0))
			th := threadOf(&k, hallPlain)
			if !wantKernOk(k) || th.State != impl.KernRuns || th.Out != end.out || times(k.Ready[3], hallPlain) != 1 {
				t.Errorf("%s: %+v\n%+v", end.name, th, k)
			}
			reply, held := heldAt(k, hallLone+4)
			if held && reply.Addr == hallPlain {
				t.Errorf("%s: the reply is still held", end.name)
			}
			if speaks(k, hallLone) && !held {
				if _, code := checkIpc(t, k, ipcCall{op: ipcReplies, thread: hallLone, msg: 1}); code != impl.CodeEmpty {
					t.Error(end.name, code)
				}
			}
		}
	}
}

// What is no receiving leaves the reply where it is.
func TestIpcReplyStays(t *testing.T) {
	for way := range 4 {
		k := calledHall(t, way%2 == 0, way/2 == 0)
		for _, c := range []ipcCall{
			{op: ipcRecvs, thread: hallLone, c: noteOf(hallActive, 1, 0)}, {op: ipcRecvs, thread: hallLone, c: endOf(hallSent, 6, 0)}, {op: ipcRecvs, thread: hallLone, c: noteOf(hallListens, 1, 0), waits: true},
			{op: ipcSends, thread: hallLone, c: endOf(hallWaited, 7, 0), call: true}, {op: ipcSends, thread: hallLone, c: endOf(hallEnd, 7, 0), waits: true},
		} {
			if got, _ := checkIpc(t, k, c); threadOf(&got, hallPlain).State != impl.KernCalls || placeOf(got, hallLone+4) < 0 {
				t.Error(c)
			}
		}
	}
}

// roomPlan is what makes room for a reply, and what a test of it counts by.
type roomPlan struct {
	pairPlan
	grants bool
}

// copied says whether what the sender names comes along, and room whether there is room for a reply then; with so many slots there ahead of the copy.
func (p roomPlan) copied(slots int) bool { return p.grants && slots < impl.TreeMaxSlots }

func (p roomPlan) room(slots int) bool {
	if p.copied(slots) {
		slots++
	}
	return p.depth < impl.TreeMaxDepth && slots < impl.TreeMaxSlots
}

func withCap(came bool) uint32 {
	if came {
		return impl.CodeWithCap
	}
	return 0
}

func eachRoom(tell func(p roomPlan)) {
	for _, depth := range []int{0, 11, 12} {
		for _, slots := range []int{0, 298, 299, 300} {
			for way := range 4 {
				tell(roomPlan{pairPlan{depth: depth, slots: slots, held: way%2 == 0}, way/2 == 0})
			}
		}
	}
}

// No room for a reply, for a message that is sent to one who waits: by the depth, the number of slots, and a caller that holds something.
func TestIpcSendRoom(t *testing.T) {
	rooms := map[bool]int{}
	eachRoom(func(p roomPlan) {
		p.awaits = true
		k := kernPair(p.pairPlan)
		slots := len(k.Slots)
		c := ipcCall{op: ipcSends, thread: pairSender, c: endOf(pairEnd, 6, 8), msg: 77, xfer: hallRef(1), call: true, waits: true}
		if !p.grants {
			c.xfer = 0
		}
		got, code := checkIpc(t, k, c)
		room := p.room(slots) && !p.held
		rooms[room]++
		out := [3]uint32{withCap(p.copied(slots)), 77, 8}
		want, state := impl.CodeDeep, impl.KernRuns
		if room {
			want, state = impl.CodeBlocked, impl.KernCalls
		}
		if th := threadOf(&got, pairSender); code != want || th.State != state || threadOf(&got, pairReceiver).Out != out || th.Out != [3]uint32{1, 2, 3} {
			t.Fatalf("%+v with %d slots: code %d, want %d, %+v", p, slots, code, want, got.Threads)
		}
		// Without a call there is nothing to make room for.
		c.call = false
		if got, code := checkIpc(t, k, c); code != impl.CodeOk || threadOf(&got, pairReceiver).Out != out {
			t.Fatalf("%+v with %d slots: code %d %+v", p, slots, code, got.Threads)
		}
	})
	if rooms[true] < 6 || rooms[false] < 20 {
		t.Error("the plans are not as they were meant", rooms)
	}
}

// For one that waits as a sender: what the receiver's caller held is dropped, and makes room for one slot more.
func TestIpcRecvRoom(t *testing.T) {
	rooms := map[bool]int{}
	eachRoom(func(p roomPlan) {
		for _, call := range []bool{false, true} {
			p.sends, p.flags = true, 0
			if call {
				p.flags = impl.KernCall
			}
			if p.grants {
				p.flags |= impl.KernGrant
			}
			k := kernPair(p.pairPlan)
			slots := len(k.Slots)
			if p.held {
				slots--
			}
			got, code := checkIpc(t, k, ipcCall{op: ipcRecvs, thread: pairReceiver, c: endOf(pairEnd, 1, 5), xfer: hallRef(2)})
			room := p.room(slots)
			rooms[room]++
			state, out := impl.KernRuns, [3]uint32{0, 0, 0}
			switch {
			case call && room:
				state, out = impl.KernCalls, [3]uint32{1, 2, 3}
			case call:
				out = [3]uint32{impl.CodeDeep, 0, 0}
			}
			th := threadOf(&got, pairSender)
			if code != impl.CodeServed || th.State != state || th.Out != out || threadOf(&got, pairReceiver).Out != [3]uint32{withCap(p.copied(slots)), 77, 8} {
				t.Fatalf("%+v with %d slots: code %d, %+v", p, slots, code, got.Threads)
			}
			if client := threadOf(&got, pairClient); p.held && (client.State != impl.KernRuns || client.Out != [3]uint32{impl.CodeGone, 0, 0}) {
				t.Fatalf("%+v: %+v", p, client)
			}
		}
	})
	if rooms[true] < 12 || rooms[false] < 12 {
		t.Error("the plans are not as they were meant", rooms)
	}
}

// For a fault, with which nothing comes along.
func TestIpcFaultRoom(t *testing.T) {
	rooms := map[bool]int{}
	eachRoom(func(p roomPlan) {
		p.awaits, p.grants = true, false
		k := kernPair(p.pairPlan)
		got, _ := checkIpc(t, k, ipcCall{op: ipcFaults, thread: pairSender, msg: 9})
		room, state := p.room(len(k.Slots)) && !p.held, impl.KernIdle
		rooms[room]++
		if room {
			state = impl.KernCalls
		}
		if th := threadOf(&got, pairSender); th.State != state || th.Out != [3]uint32{1, 2, 3} || len(got.Ready[2]) != 1 || threadOf(&got, pairReceiver).Out != [3]uint32{0, 9, 8} {
			t.Fatalf("%+v: %+v", p, got.Threads)
		}
		// Where nobody waits there is no reply yet: it waits as a sender, whether there is room or not.
		p.awaits = false
		got, _ = checkIpc(t, kernPair(p.pairPlan), ipcCall{op: ipcFaults, thread: pairSender, msg: 9})
		if th := threadOf(&got, pairSender); th.State != impl.KernSends || th.Flags != impl.KernCall || th.Xfer != 0 || th.Msg != 9 || th.Badge != 8 {
			t.Fatalf("%+v: %+v", p, th)
		}
		// When it is taken then, and there is no room, it goes on.
		slots := len(got.Slots)
		if p.held {
			slots--
		}
		got, code := checkIpc(t, got, ipcCall{op: ipcRecvs, thread: pairReceiver, c: endOf(pairEnd, 1, 0)})
		want := impl.KernThread{At: pairSender, State: impl.KernRuns, Prio: 2, Slice: 4, Out: [3]uint32{impl.CodeDeep, 0, 0}}
		if p.room(slots) {
			want.State, want.Out = impl.KernCalls, [3]uint32{1, 2, 3}
		}
		if th := threadOf(&got, pairSender); code != impl.CodeServed || *th != want {
			t.Fatalf("%+v: code %d, %d slots, %+v", p, code, slots, th)
		}
	})
	if rooms[true] < 6 || rooms[false] < 20 {
		t.Error("the plans are not as they were meant", rooms)
	}
}

// What comes along is looked up when the message is given, both ways: what was there when the sender, or the receiver, began to wait counts for nothing.
func TestIpcLookedUpWhenGiven(t *testing.T) {
	sends := kernPair(pairPlan{sends: true, flags: impl.KernGrant})
	awaits := kernPair(pairPlan{awaits: true})
	reap := func(at int) func(k *impl.Kern) {
		return func(k *impl.Kern) { *k, _ = impl.ReapRun(*k, at, true, 9) }
	}
	for _, c := range []struct {
		name   string
		change func(k *impl.Kern)
		want   impl.Cap // that comes along; nothing, if none does
	}{
		{"as it is", asItIs, endOf(pairEnd, 5, 0)},
		{"what was named is gone", reap(pairFrom), impl.Cap{}},
		{"something else is there", func(k *impl.Kern) {
			reap(pairFrom)(k)
			*k, _ = impl.HandMint(*k, 200, pairFrom, 3, 6)
		}, endOf(pairEnd+4, 3, 6)},
		{"it was moved", func(k *impl.Kern) { *k, _ = impl.HandMove(*k, pairFrom, pairFrom+8) }, impl.Cap{}},
		{"a copy is where it was", func(k *impl.Kern) {
			*k, _ = impl.HandMove(*k, pairFrom, pairFrom+8)
			*k, _ = impl.HandCopy(*k, pairFrom+8, pairFrom, 1)
		}, endOf(pairEnd, 1, 0)},
		{"where it would come is taken", func(k *impl.Kern) { *k, _ = impl.HandCopy(*k, pairFrom, pairTo, 7) }, impl.Cap{}},
		{"the sender has no space", reap(pairSender), impl.Cap{}},
		{"the receiver has no space", reap(pairReceiver), impl.Cap{}},
		{"the sender has a guard", func(k *impl.Kern) { slotOf(k, pairSender).Cap = guarded(1536, 5, "1") }, impl.Cap{}},
		{"a region is there", func(k *impl.Kern) {
			reap(pairFrom)(k)
			putSlot(k, 0, pairFrom, regionOf(3072, 5, 0))
		}, impl.Cap{}},
	} {
		for way, ahead := range []impl.Kern{sends, awaits} {
			k := kernCopy(ahead)
			c.change(&k)
			call := ipcCall{op: ipcRecvs, thread: pairReceiver, c: endOf(pairEnd, 1, 0), xfer: hallRef(2)}
			if way == 1 {
				call = ipcCall{op: ipcSends, thread: pairSender, c: endOf(pairEnd, 6, 8), msg: 77, xfer: hallRef(1)}
			}
			had, _ := heldAt(k, pairTo)
			got, code := checkIpc(t, k, call)
			came, _ := heldAt(got, pairTo)
			if code != impl.CodeServed*(1-way) || threadOf(&got, pairReceiver).Out != [3]uint32{withCap(c.want != impl.Cap{}), 77, 8} || came != had && came != c.want {
				t.Errorf("%s, %d: code %d, %v came along, want %v, %v", c.name, way, code, came, c.want, threadOf(&got, pairReceiver).Out)
			}
		}
	}
}

// pairCalls is a message that a sender gives to one who waits, and one that is taken of one who waits, with these Xfers and flags.
func pairCalls(from uint32, to uint32, flags int) ([2]impl.Kern, [2]ipcCall) {
	sends, awaits := kernPair(pairPlan{sends: true, flags: flags}), kernPair(pairPlan{awaits: true})
	threadOf(&sends, pairSender).Xfer = from
	threadOf(&awaits, pairReceiver).Xfer = to
	rights := impl.CapWrites + flags/impl.KernGrant*impl.CapGrants
	return [2]impl.Kern{sends, awaits}, [2]ipcCall{
		{op: ipcRecvs, thread: pairReceiver, c: endOf(pairEnd, 1, 0), xfer: to},
		{op: ipcSends, thread: pairSender, c: endOf(pairEnd, rights, 8), msg: 77, xfer: from, call: flags%2 == 1},
	}
}

// Each slot of a node named by the sender, and each by the receiver, with each of the flags, whoever came first.
func TestIpcPromise27(t *testing.T) {
	came := map[bool]int{}
	for flags := range 4 {
		for from := range 9 {
			for to := range 9 {
				states, calls := pairCalls(hallRef(from), hallRef(to), flags)
				for way := range states {
					if flags == impl.KernCall && way == 1 {
						// A call by what does not grant is refused.
						continue
					}
					got, _ := checkIpc(t, states[way], calls[way])
					want := flags&impl.KernGrant != 0 && from == 1 && to != 1
					if out := threadOf(&got, pairReceiver).Out[0]; out != withCap(want) {
						t.Fatal(flags, from, to, way, out)
					}
					came[want]++
				}
			}
		}
	}
	if came[true] < 30 || came[false] < 400 {
		t.Error("too few", came)
	}
	// In the hall there is more to be named.
	k := kernHall()
	for from := range 32 {
		for to := range 32 {
			threadOf(&k, hallWaiter).Xfer = hallRef(to)
			got, code := checkIpc(t, k, ipcCall{op: ipcSends, thread: hallPlain, c: endOf(hallWaited, 6, from), msg: uint32(to), xfer: hallRef(from)})
			want := from > 0 && from < 10 && from != 7 && (to == 0 || to > 9)
			if out := threadOf(&got, hallWaiter).Out; code != impl.CodeOk || out != [3]uint32{withCap(want), uint32(to), uint32(from)} {
				t.Fatal(from, to, code, out)
			}
		}
	}
}

// A reference that names no slot, of the sender or of the receiver.
func TestIpcWrongRefs(t *testing.T) {
	for i, ref := range wrongRefs() {
		for side := range 2 {
			from, to := ref, hallRef(2)
			if side == 1 {
				from, to = hallRef(1), ref
			}
			states, calls := pairCalls(from, to, impl.KernGrant)
			way := (i + side) % 2
			got, _ := checkIpc(t, states[way], calls[way])
			if out := threadOf(&got, pairReceiver).Out; out != [3]uint32{0, 77, 8} {
				t.Fatal(ref, side, way, out)
			}
		}
	}
}

// Each kind, with each of its bits and sets of rights, as an original and as a copy: what comes along is what HandCopy makes of it.
func TestIpcEachKind(t *testing.T) {
	came := map[int]int{}
	for _, c := range sourceCaps() {
		k, from := kernSource(c)
		for i := range 2 {
			at := 1024 + 64*i
			putSlot(&k, 0, 68+4*i, origOf(impl.CapThread, at, 0))
			putSlot(&k, 64, at, copyOf(impl.CapNode, 128, 5))
			k.Threads = append(k.Threads, impl.KernThread{At: at, State: impl.KernRuns, Prio: i, Slice: 4})
			k.Ready[i] = []int{at}
		}
		putSlot(&k, 0, 80, origOf(impl.CapEnd, 1200, 0))
		k.Ends = append([]impl.KernEnd{{At: 1200}}, k.Ends...)
		slices.SortFunc(k.Threads, func(a impl.KernThread, b impl.KernThread) int { return a.At - b.At })
		want, wantCode := impl.HandCopy(k, from, 248, 7)
		k, code := checkIpc(t, k, ipcCall{op: ipcRecvs, thread: 1088, c: endOf(1200, 1, 0), xfer: impl.LookRef(5, 30), waits: true})
		if code != impl.CodeBlocked {
			t.Fatal(c, code)
		}
		got, code := checkIpc(t, k, ipcCall{op: ipcSends, thread: 1024, c: endOf(1200, 6, 1), msg: 6, xfer: impl.LookRef(5, (from-128)/4)})
		if out := threadOf(&got, 1088).Out; code != 0 || out != [3]uint32{withCap(wantCode == 0), 6, 1} || wantCode == 0 && !slices.Equal(got.Slots, want.Slots) || wantCode != 0 && !slices.Equal(got.Slots, k.Slots) {
			t.Fatalf("%+v: code %d, out %v\n%+v", c, code, out, got)
		}
		if wantCode == 0 {
			came[c.Kind]++
		}
	}
	for kind := impl.CapNode; kind <= impl.CapFrame; kind++ {
		if came[kind] == 0 {
			t.Error("nothing came along of kind", kind)
		}
	}
}

// The word and the badge that were sent are received, whoever came first: for a message, a call and a fault.
func TestIpcPromise34(t *testing.T) {
	words := []uint32{0, 1, 77, 1 << 16, 1<<31 - 1, 1 << 31, math.MaxUint32}
	for _, word := range words {
		for _, badge := range []int{0, 1, 255, 256, 32768, 65535} {
			for op := range 6 {
				k := kernHall()
				putSlot(&k, slotOfObject(k, hallEnd), hallPlain+8, endOf(hallEnd, 6, badge))
				give := ipcCall{op: ipcSends, thread: hallPlain, c: endOf(hallEnd, 6, badge), msg: word, call: op%3 == 1, waits: true}
				if op%3 == 2 {
					give = ipcCall{op: ipcFaults, thread: hallPlain, msg: word}
				}
				take := ipcCall{op: ipcRecvs, thread: hallBare, c: endOf(hallEnd, 1, 4242), waits: true}
				order := []ipcCall{give, take}
				if op/3 == 1 {
					slices.Reverse(order)
				}
				for _, c := range order {
					k, _ = checkIpc(t, k, c)
				}
				if out := threadOf(&k, hallBare).Out; out != [3]uint32{0, word, uint32(badge)} {
					t.Fatal(word, badge, op, out)
				}
				if state := threadOf(&k, hallPlain).State; (state == impl.KernCalls) != (op%3 > 0) {
					t.Fatal(op, state)
				}
			}
		}
		k, _ := checkIpc(t, kernHall(), ipcCall{op: ipcReplies, thread: hallServer, msg: word})
		if out := threadOf(&k, hallClient).Out; out != [3]uint32{0, word, 0} {
			t.Fatal(word, out)
		}
	}
}

// ipcPart is one part of a call to kernHall, with the codes that it asks for by itself.
type ipcPart struct {
	name  string
	call  ipcCall
	codes []int
}

func ipcThreads() []ipcPart {
	outside := []int{impl.CodeRange}
	return []ipcPart{
		{"one that runs", ipcCall{thread: hallPlain}, nil}, {"one that holds a reply", ipcCall{thread: hallServer}, nil},
		{"one that is ready behind others", ipcCall{thread: hallCareful}, nil},
		{"one that has begun", ipcCall{thread: hallBegun}, outside}, {"one that is idle", ipcCall{thread: hallIdle}, outside},
		{"one that sends", ipcCall{thread: hallGiver}, outside}, {"one that waits, and holds a reply", ipcCall{thread: hallHolder}, outside},
		{"one that calls", ipcCall{thread: hallClient}, outside}, {"one that listens", ipcCall{thread: hallFirst}, outside},
		{"an endpoint", ipcCall{thread: hallEnd}, outside}, {"beside one", ipcCall{thread: hallPlain + 4}, outside},
		{"none", ipcCall{}, outside}, {"negative", ipcCall{thread: -hallPlain}, outside}, {"far", ipcCall{thread: math.MaxInt}, outside}, {"farther", ipcCall{thread: math.MinInt}, outside},
	}
}

// ipcCaps is capabilities with what each of IpcSend, IpcRecv and IpcSignal has against them, but for who waits.
func ipcCaps(op int, call bool) []ipcPart {
	var list []ipcPart
	ats := []int{hallEnd, hallSent, hallWaited, hallNote, hallListens, hallActive, 2040, hallFrame, hallPlain}
	for _, kind := range []int{impl.CapEnd, impl.CapNote, impl.CapFrame, impl.CapThread, impl.CapReply, impl.CapNode, impl.CapUntyped, 0, 8, -1} {
		for _, at := range ats {
			for rights := range 8 {
				c := impl.Cap{Kind: kind, Addr: at, Rights: rights}
				part := ipcPart{name: fmt.Sprintf("%+v", c), call: ipcCall{c: c}}
				isEnd, isNote := endAt(&impl.Kern{Ends: kernHall().Ends}, at) != nil, noteAt(&impl.Kern{Notes: kernHall().Notes}, at) != nil
				there := kind == impl.CapEnd && isEnd && op != ipcSignals || kind == impl.CapNote && isNote && op != ipcSends
				need := []int{impl.CapWrites, impl.CapReads, 0, impl.CapWrites}[op]
				if call {
					need |= impl.CapGrants
				}
				if !wantCapOk(c) {
					part.codes = append(part.codes, impl.CodeRange)
				}
				if !there {
					part.codes = append(part.codes, impl.CodeKind)
				}
				if rights&need != need {
					part.codes = append(part.codes, impl.CodeRight)
				}
				list = append(list, part)
			}
		}
	}
	return list
}

// ipcAtLast is the code of a call with which nothing is wrong, to an object of kernHall.
func ipcAtLast(c ipcCall) int {
	served := c.op == ipcSends && c.c.Addr == hallWaited || c.op == ipcRecvs && (c.c.Addr == hallSent || c.c.Addr == hallActive)
	switch {
	case c.op == ipcSignals, served && c.op == ipcSends && !c.call:
		return impl.CodeOk
	case served && c.op == ipcRecvs:
		return impl.CodeServed
	case served || c.waits:
		return impl.CodeBlocked
	}
	return impl.CodeBusy
}

// The codes come in their order, whatever else is wrong.
func TestIpcOrderOfCodes(t *testing.T) {
	k := kernHall()
	seen := map[[3]int]int{}
	for way := range 7 {
		op, call, waits := []int{ipcSends, ipcSends, ipcSends, ipcSends, ipcRecvs, ipcRecvs, ipcSignals}[way], way == 1 || way == 3, way%4 >= 2 || way == 4
		for i, c := range ipcCaps(op, call) {
			for j, thread := range ipcThreads() {
				if op == ipcSignals && j > 0 || j > 2 && (i+j)%13 > 0 {
					continue
				}
				whole := ipcCall{op, thread.call.thread, c.call.c, 5, 0, call, waits}
				all := slices.Concat(thread.codes, c.codes)
				want := ipcAtLast(whole)
				for _, code := range []int{impl.CodeRight, impl.CodeKind, impl.CodeRange} {
					if slices.Contains(all, code) {
						want = code
					}
				}
				got, code := whole.do(k)
				refused := want == impl.CodeRange || want == impl.CodeKind || want == impl.CodeRight || want == impl.CodeBusy && op == ipcSends
				if code != want || refused && !wantKernSame(got, k) {
					t.Fatalf("%v (%s): code %d, want %d", whole, thread.name, code, want)
				}
				dropped := op == ipcRecvs && whole.c.Kind == impl.CapEnd && !refused && whole.thread == hallServer
				if op == ipcRecvs && dropped == slices.Contains(got.Slots, *slotOf(&k, hallServer+4)) {
					t.Fatalf("%v (%s): the reply was dropped: %v", whole, thread.name, dropped)
				}
				for _, other := range all {
					seen[[3]int{op, want, other}]++
				}
				seen[[3]int{op, want, 0}]++
			}
		}
	}
	for _, pair := range [][3]int{
		{ipcSends, 8, 4}, {ipcSends, 8, 5}, {ipcSends, 4, 5}, {ipcSends, 12, 0}, {ipcSends, 15, 0}, {ipcSends, 0, 0}, {ipcSends, 5, 0}, {ipcSends, 4, 0},
		{ipcRecvs, 8, 4}, {ipcRecvs, 8, 5}, {ipcRecvs, 4, 5}, {ipcRecvs, 12, 0}, {ipcRecvs, 15, 0}, {ipcRecvs, 16, 0}, {ipcRecvs, 5, 0},
		{ipcSignals, 8, 4}, {ipcSignals, 8, 5}, {ipcSignals, 4, 5}, {ipcSignals, 0, 0}, {ipcSignals, 5, 0},
	} {
		if seen[pair] == 0 {
			t.Error("not seen", pair)
		}
	}
}

// All addresses as threads and as objects, and far ones.
func TestIpcEachAddress(t *testing.T) {
	k := kernHall()
	ats := append([]int(nil), farInts...)
	for at := -3; at < 2060; at++ {
		if at > 900 && at%9 > 0 {
			continue
		}
		ats = append(ats, at)
	}
	for i, at := range append(ats, 4092, 4096, 4100) {
		there := slices.Contains(threadsOf(k), at)
		for op := range 5 {
			c := ipcCall{op, at, endOf(hallWaited, 7, 1), 4, hallRef(1), i%2 == 0, i%3 == 0}
			if !there && op != ipcSignals {
				got, code := c.do(k)
				if !wantKernSame(got, k) || op != ipcFaults && code != impl.CodeRange {
					t.Fatal(c, code)
				}
				continue
			}
			checkIpc(t, k, c)
		}
		for op := range 4 {
			for _, kind := range []int{impl.CapEnd, impl.CapNote} {
				c := ipcCall{op, hallPlain, impl.Cap{Kind: kind, Addr: at, Rights: 3}, 4, 0, false, i%3 == 0}
				got, code := c.do(k)
				if want := wantIpcCode(k, c); code != want {
					t.Fatal(c, code, want)
				}
				if code == impl.CodeRange || code == impl.CodeKind {
					if !wantKernSame(got, k) {
						t.Fatal(c, code, got)
					}
				}
			}
		}
	}
}

func wantIpcCode(k impl.Kern, c ipcCall) int {
	_, code := wantIpc(k, c)
	return code
}

// ipcAsked is calls to ask of any state.
func ipcAsked() []ipcCall {
	var calls []ipcCall
	for i, thread := range []int{hallPlain, hallServer, hallCareful, hallBare, hallFaulty, hallBegun, hallHolder, 160, 384, 0, -1, math.MaxInt, math.MinInt} {
		for op := range 5 {
			end := []int{hallEnd, hallSent, hallWaited, hallLoneEnd, hallOneEnd, 352, 356}[(i+op)%7]
			c := ipcCall{op, thread, endOf(end, 7, i), uint32(i), hallRef(1 + i%3*12), i%2 == 0, i%3 > 0}
			if op == ipcSignals || op == ipcRecvs && i%3 == 2 {
				c.c = noteOf([]int{hallNote, hallListens, hallActive, 360, 364}[i%5], 3, i)
			}
			calls = append(calls, c)
		}
	}
	return calls
}

// refusedIpc asks for the one answer of a state that is not ok.
func refusedIpc(t *testing.T, name string, k impl.Kern, calls []ipcCall) {
	t.Helper()
	for _, c := range calls {
		want := impl.CodeRange
		if c.op == ipcFaults {
			want = 0
		}
		if got, code := c.do(k); code != want || !wantKernSame(got, impl.Kern{}) {
			t.Fatalf("%s: %v: %d %+v", name, c, code, got)
		}
	}
}

func TestIpcNotOk(t *testing.T) {
	r := rand.New(rand.NewSource(133))
	calls := ipcAsked()
	refusedIpc(t, "the zero state", impl.Kern{}, calls)
	for i := range 120 {
		k := wildKern(r)
		if i%3 == 0 {
			k = turned(r, kernHall(), 2)
		}
		if !wantKernOk(k) {
			refusedIpc(t, fmt.Sprintf("%+v", k), k, calls[i%len(calls):min(len(calls), i%len(calls)+12)])
		}
	}
	// A state may fail in what a call does not come by, and in what it would mend.
	changes := []func(k *impl.Kern){
		func(k *impl.Kern) { k.Ticks = -1 },
		func(k *impl.Kern) { k.Bits = 10 },
		func(k *impl.Kern) { k.Bits = 13 },
		func(k *impl.Kern) { k.Ready[6] = nil },
		func(k *impl.Kern) { k.Ready[3] = []int{hallBare, hallPlain, hallServer, hallPlain} },
		func(k *impl.Kern) { k.Ready[3] = []int{hallPlain, hallServer} },
		func(k *impl.Kern) { threadOf(k, hallPlain).Xfer = 1 },
		func(k *impl.Kern) { threadOf(k, hallPlain).On = hallEnd },
		func(k *impl.Kern) { threadOf(k, hallPlain).Slice = 5 },
		func(k *impl.Kern) { threadOf(k, hallPlain).PendRef = 1 },
		func(k *impl.Kern) { threadOf(k, hallClient).State = impl.KernIdle },
		func(k *impl.Kern) { threadOf(k, hallIdle).State = impl.KernCalls },
		func(k *impl.Kern) { cutSlot(k, hallServer+4) },
		func(k *impl.Kern) { threadOf(k, hallWaiter).Msg = 1 },
		func(k *impl.Kern) { threadOf(k, hallGiver).Flags = 4 },
		func(k *impl.Kern) { threadOf(k, hallGiver).Badge = 65536 },
		func(k *impl.Kern) { k.Ends[0].Kind = 2 },
		func(k *impl.Kern) { k.Ends[1].Kind = 2 },
		func(k *impl.Kern) { k.Ends[2].Kind = 1 },
		func(k *impl.Kern) { k.Ends[2].Kind = 0 },
		func(k *impl.Kern) { k.Ends[2].List = []int{hallWaiter, hallHolder, hallWaiter} },
		func(k *impl.Kern) { k.Ends[2].List = []int{hallWaiter} },
		func(k *impl.Kern) { k.Ends[0], k.Ends[1] = k.Ends[1], k.Ends[0] },
		func(k *impl.Kern) { k.Notes[0].Word = 1 },
		func(k *impl.Kern) { k.Notes[1].Active = true },
		func(k *impl.Kern) { k.Notes[2].Word = 65536 },
		func(k *impl.Kern) { k.Frames[0].Data = nil },
		func(k *impl.Kern) { slotOf(k, hallServer+8).Cap.Rights = 8 },
		func(k *impl.Kern) { slotOf(k, hallAt(1)).Cap.Addr = hallSent },
		func(k *impl.Kern) { putSlot(k, 68, hallBare+8, copyOf(impl.CapNode, hallNode, 5)) },
	}
	for i, change := range changes {
		k := kernHall()
		change(&k)
		if wantKernOk(k) {
			t.Error("ok", i)
		}
		refusedIpc(t, fmt.Sprint("change ", i), k, calls)
	}
}

// Changes of a state: of what is not ok there is nothing; of what is ok it is as the document says of that.
func TestIpcEachChange(t *testing.T) {
	calls := ipcAsked()
	oks, others := 0, 0
	eachChange(kernHall(), []int{0, 1, 2, 3, 5, 64, 128, hallPlain, hallEnd, hallNode, 65536, math.MaxInt}, func(path string, k impl.Kern) {
		if !wantKernOk(k) {
			others++
			refusedIpc(t, path, k, []ipcCall{calls[others%len(calls)]})
			return
		}
		oks++
		for i := range 3 {
			checkIpc(t, k, calls[(oks+i*13)%len(calls)])
		}
	})
	if oks < 300 || others < 5000 {
		t.Error("the changes are not as they were meant", oks, others)
	}
}

// ipcRuns asks calls of states that are written out and made by chance.
func ipcRuns(seed int64, tell func(k impl.Kern, c ipcCall)) {
	r := rand.New(rand.NewSource(seed))
	states := append(ipcStates(), impl.Kern{})
	for range 15 {
		states = append(states, anyKern(r, 60), turned(r, kernHall(), 2))
	}
	for _, c := range ipcAsked() {
		tell(kernHall(), c)
	}
	for _, k := range states {
		for range 10 {
			tell(k, anyIpc(r, k))
		}
	}
}

// Nothing is written into an argument, or behind the ends of its lists, and what stands there counts for nothing.
func TestIpcArgumentsStay(t *testing.T) {
	ipcRuns(134, func(k impl.Kern, c ipcCall) {
		a := sparedKern(k)
		whole := wholeKern(a)
		got, code := c.do(a)
		want, wantCode := c.do(k)
		if code != wantCode || !wantKernSame(got, want) {
			t.Fatalf("%v: what stands behind the end of a list counts\n%+v", c, k)
		}
		if !reflect.DeepEqual(wholeKern(a), whole) {
			t.Fatalf("%v: an argument was written into\n%+v", c, k)
		}
	})
}

// Answers are new memory, with their spare room, also where a call is refused: they share none with the argument, and no two of their lists share any.
func TestIpcAnswersStay(t *testing.T) {
	ipcRuns(135, func(k impl.Kern, c ipcCall) {
		a := sparedKern(k)
		got, _ := c.do(a)
		spans := append(memoryOf(reflect.ValueOf(&got).Elem()), memoryOf(reflect.ValueOf(&a).Elem())...)
		slices.SortFunc(spans, func(a [2]uintptr, b [2]uintptr) int { return slices.Compare(a[:], b[:]) })
		for i := 1; i < len(spans); i++ {
			if spans[i][0] < spans[i-1][1] {
				t.Fatalf("%v: lists share memory\n%+v", c, k)
			}
		}
	})
}

// An answer stays what it was, whatever is written into the argument, and the other way around.
func TestIpcAnswersAreOwn(t *testing.T) {
	for _, c := range ipcAsked() {
		k := kernHall()
		want, _ := wantIpc(k, c)
		got, _ := c.do(k)
		eachLeaf(reflect.ValueOf(&k).Elem(), "", func(path string, leaf reflect.Value) { leaf.SetZero() })
		if !wantKernSame(got, want) {
			t.Fatalf("%v: an answer changed with its argument\n%+v", c, got)
		}
		k = kernHall()
		got, _ = c.do(k)
		eachLeaf(reflect.ValueOf(&got).Elem(), "", func(path string, leaf reflect.Value) { leaf.SetZero() })
		if !wantKernSame(k, kernHall()) {
			t.Fatalf("%v: an argument changed with its answer\n%+v", c, k)
		}
	}
}

// One question has one answer, however often it is asked, by however many at once, on however many processors.
func TestIpcKeepsNothing(t *testing.T) {
	r := rand.New(rand.NewSource(136))
	states := []impl.Kern{kernHall(), kernPair(pairPlan{awaits: true}), kernPair(pairPlan{sends: true, flags: 3}), anyKern(r, 60)}
	pair := []ipcCall{
		{op: ipcSends, thread: pairSender, c: endOf(pairEnd, 7, 8), msg: 4, xfer: hallRef(1), call: true, waits: true},
		{op: ipcRecvs, thread: pairReceiver, c: endOf(pairEnd, 7, 8), xfer: hallRef(2), waits: true},
		{op: ipcFaults, thread: pairSender, msg: 6},
	}
	calls := append(pair, ipcAsked()...)
	before := runtime.GOMAXPROCS(0)
	defer runtime.GOMAXPROCS(before)
	for _, processors := range []int{1, 2, max(before, 4)} {
		runtime.GOMAXPROCS(processors)
		var askers sync.WaitGroup
		for asker := range 8 {
			askers.Go(func() {
				for i := range 4 {
					k := states[(asker+i)%len(states)]
					for _, c := range calls {
						want, wantCode := wantIpc(k, c)
						if got, code := c.do(k); code != wantCode || !wantKernSame(got, want) {
							t.Errorf("%v: %d\n%+v", c, code, k)
							return
						}
					}
				}
			})
		}
		askers.Wait()
	}
}

// A call leaves no goroutine running; one that has said its last word may need a moment to be gone.
func TestIpcLeavesNoneRunning(t *testing.T) {
	before := runtime.NumGoroutine()
	ipcRuns(137, func(k impl.Kern, c ipcCall) { c.do(k) })
	for _, k := range []impl.Kern{kernPair(pairPlan{awaits: true}), kernPair(pairPlan{awaits: true, held: true})} {
		for i := range 40 {
			impl.IpcSend(k, pairSender, endOf(pairEnd, 6, 8), 4, hallRef(1), i%2 == 0, true)
			impl.IpcFault(k, pairSender, 6)
		}
	}
	for tries := 0; runtime.NumGoroutine() > before; tries++ {
		if tries > 2000 {
			t.Fatal("goroutines are left", before, runtime.NumGoroutine())
		}
		time.Sleep(time.Millisecond)
	}
}

// Lists that are empty are as good as such that are not there.
func TestIpcEmptyLists(t *testing.T) {
	k := kernPair(pairPlan{awaits: true})
	full := kernCopy(k)
	k.Notes, k.Frames = []impl.KernNote{}, make([]impl.KernFrame, 0, 2)
	for prio := range k.Ready {
		if len(k.Ready[prio]) == 0 {
			k.Ready[prio] = make([]int, 0, 3)
		}
	}
	k.Ends[1].List = make([]int, 0, 4)
	for _, thread := range []int{pairSender, pairReceiver, 0} {
		for op := range 5 {
			for _, end := range []int{pairEnd, pairEnd + 4} {
				c := ipcCall{op, thread, endOf(end, 7, 1), 2, hallRef(1), true, true}
				got, code := c.do(k)
				want, wantCode := wantIpc(full, c)
				if other, otherCode := c.do(full); code != otherCode || code != wantCode || !wantKernSame(got, other) || !wantKernSame(got, want) {
					t.Error(c, code)
				}
			}
		}
	}
}

// On words, and among other calls: what is left is a state whose words read back, and in which things are made, handed on, taken back and sent again.
func TestIpcAmongOthers(t *testing.T) {
	r := rand.New(rand.NewSource(138))
	for i := range 40 {
		k := kernHall()
		if i%2 == 0 {
			k = anyKern(r, 70)
		}
		for range 8 {
			k, _ = checkIpc(t, k, anyIpc(r, k))
			if back, ok := impl.LayRead(impl.LayMake(k)); !ok || !wantKernSame(back, k) {
				t.Fatalf("not read back\n%+v", k)
			}
			k, _ = checkIpc(t, k, anyIpc(r, k))
			k, _ = checkMake(t, k, anyMake(r, k))
			k, _ = checkHand(t, k, anyHand(r, k))
			if r.Intn(4) == 0 {
				k, _ = checkReapOne(t, k, oneOf(r, kernAsked(k)))
			}
			calls := someCalls(r, k)
			k = checkReady(t, k, calls[r.Intn(len(calls))])
		}
	}
}
