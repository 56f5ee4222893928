package tests

import (
	"cmp"
	"math/rand"
	"reflect"
	"slices"

	"loop.example/donjon/impl"
)

// Originals and what is derived of them, for states that are written out.

func origOf(kind int, addr int, bits int) impl.Cap {
	return impl.Cap{Kind: kind, Addr: addr, Bits: bits, Rights: impl.CapMax(kind), Orig: true}
}

func copyOf(kind int, addr int, bits int) impl.Cap {
	return impl.Cap{Kind: kind, Addr: addr, Bits: bits, Rights: impl.CapMax(kind)}
}

func regionOf(addr int, bits int, free int) impl.Cap {
	return impl.Cap{Kind: impl.CapUntyped, Addr: addr, Bits: bits, Free: free, Orig: true}
}

func endOf(addr int, rights int, badge int) impl.Cap {
	return impl.Cap{Kind: impl.CapEnd, Addr: addr, Rights: rights, Badge: badge}
}

// kernFull is a state with something of everything: threads in all six states, two of them ready; endpoints of each Kind; notifications with a listener, with a word, and with nothing; a node that lies in a node, a region that lies in that, and objects made of both regions. All slots of the kernel and of the first node are taken; those of the threads from 192 on are not.
func kernFull() impl.Kern {
	guarded := copyOf(impl.CapNode, 128, 3)
	guarded.Guard, guarded.GuardBits = 1, 2
	told := copyOf(impl.CapNote, 364, 0)
	told.Badge = 5
	k := impl.Kern{
		Bits:  10,
		Ticks: 77,
		Slots: []impl.TreeSlot{
			{At: 64, Cap: origOf(impl.CapNode, 128, 3)},
			{At: 160, Cap: copyOf(impl.CapNode, 128, 3), Depth: 1},
			{At: 128, Cap: guarded, Depth: 1},
			{At: 68, Cap: origOf(impl.CapThread, 160, 0)},
			{At: 132, Cap: copyOf(impl.CapThread, 160, 0), Depth: 1},
			{At: 72, Cap: origOf(impl.CapThread, 192, 0)},
			{At: 76, Cap: origOf(impl.CapThread, 224, 0)},
			{At: 80, Cap: origOf(impl.CapThread, 256, 0)},
			{At: 164, Cap: copyOf(impl.CapReply, 256, 0), Depth: 1},
			{At: 84, Cap: origOf(impl.CapThread, 288, 0)},
			{At: 88, Cap: origOf(impl.CapThread, 320, 0)},
			{At: 92, Cap: origOf(impl.CapEnd, 352, 0)},
			{At: 136, Cap: endOf(352, 3, 7), Depth: 1},
			{At: 140, Cap: endOf(352, 1, 7), Depth: 2},
			{At: 168, Cap: endOf(352, 6, 0), Depth: 1},
			{At: 96, Cap: origOf(impl.CapEnd, 356, 0)},
			{At: 100, Cap: origOf(impl.CapNote, 360, 0)},
			{At: 104, Cap: origOf(impl.CapNote, 364, 0)},
			{At: 144, Cap: told, Depth: 1},
			{At: 108, Cap: origOf(impl.CapFrame, 368, 2)},
			{At: 148, Cap: copyOf(impl.CapFrame, 368, 2), Depth: 1},
			{At: 112, Cap: regionOf(512, 7, 48)},
			{At: 152, Cap: origOf(impl.CapNode, 512, 1), Depth: 1},
			{At: 512, Cap: copyOf(impl.CapNode, 512, 1), Depth: 2},
			{At: 516, Cap: regionOf(528, 4, 8), Depth: 1},
			{At: 116, Cap: origOf(impl.CapNote, 528, 0), Depth: 2},
			{At: 120, Cap: origOf(impl.CapFrame, 532, 2), Depth: 2},
			{At: 156, Cap: origOf(impl.CapEnd, 520, 0), Depth: 1},
			{At: 124, Cap: origOf(impl.CapThread, 384, 0)},
		},
		Threads: []impl.KernThread{
			{At: 160, State: impl.KernRuns, Prio: 3, Max: 7, Slice: 4, Out: [3]uint32{1, 2, 3}, Pend: impl.KernRevokes, PendRef: 0x30002},
			{At: 192, State: impl.KernSends, Prio: 2, Max: 2, Slice: 1, On: 352, Badge: 7, Msg: 42, Flags: impl.KernCall + impl.KernGrant, Xfer: 0x10001},
			{At: 224, State: impl.KernWaits, Prio: 7, Slice: 2, On: 356, Xfer: 5},
			{At: 256, State: impl.KernCalls, Slice: 3},
			{At: 288, State: impl.KernListens, Prio: 1, Max: 1, Slice: 4, On: 360},
			{At: 320, State: impl.KernIdle, Slice: 4},
			{At: 384, State: impl.KernRuns, Prio: 3, Slice: 1},
		},
		Ends:   []impl.KernEnd{{At: 352, Kind: 1, List: []int{192}}, {At: 356, Kind: 2, List: []int{224}}, {At: 520}},
		Notes:  []impl.KernNote{{At: 360, List: []int{288}}, {At: 364, Active: true, Word: 9}, {At: 528}},
		Frames: []impl.KernFrame{{At: 368, Data: []uint32{7, 0, 1 << 31, 9}}, {At: 532, Data: []uint32{0, 0, 0, 4}}},
	}
	k.Ready[3] = []int{384, 160}
	return k
}

// kernNested is nodes that lie in nodes, the first in a slot of the kernel, with what came of the last in the first.
func kernNested(nodes int) impl.Kern {
	k := impl.Kern{Bits: 12}
	for i := range nodes {
		at := 64
		if i > 0 {
			at = 128 + 8*(i-1) + 4
		}
		k.Slots = append(k.Slots, impl.TreeSlot{At: at, Cap: origOf(impl.CapNode, 128+8*i, 1)})
	}
	last := copyOf(impl.CapNode, 128+8*(nodes-1), 1)
	k.Slots = append(k.Slots, impl.TreeSlot{At: 128, Cap: last, Depth: 1})
	return k
}

// kernRegions is regions of which each came of the one ahead of it, all beginning at 128, with an endpoint made of the last.
func kernRegions() impl.Kern {
	k := impl.Kern{Bits: 9, Ends: []impl.KernEnd{{At: 128}}}
	for i := range 6 {
		k.Slots = append(k.Slots, impl.TreeSlot{At: 64 + 4*i, Cap: regionOf(128, 7-i, 1<<(6-i)), Depth: i})
	}
	k.Slots[5].Cap.Free = 4
	k.Slots = append(k.Slots, impl.TreeSlot{At: 124, Cap: origOf(impl.CapEnd, 128, 0), Depth: 6})
	return k
}

// kernCopy shares nothing with a state.
func kernCopy(k impl.Kern) impl.Kern {
	c := k
	c.Slots = slices.Clone(k.Slots)
	c.Threads = slices.Clone(k.Threads)
	c.Ends = slices.Clone(k.Ends)
	for i := range c.Ends {
		c.Ends[i].List = slices.Clone(c.Ends[i].List)
	}
	c.Notes = slices.Clone(k.Notes)
	for i := range c.Notes {
		c.Notes[i].List = slices.Clone(c.Notes[i].List)
	}
	c.Frames = slices.Clone(k.Frames)
	for i := range c.Frames {
		c.Frames[i].Data = slices.Clone(c.Frames[i].Data)
	}
	for prio := range c.Ready {
		c.Ready[prio] = slices.Clone(c.Ready[prio])
	}
	return c
}

// Changes of states.

func slotOf(k *impl.Kern, at int) *impl.TreeSlot {
	return &k.Slots[slices.IndexFunc(k.Slots, func(s impl.TreeSlot) bool { return s.At == at })]
}

func threadOf(k *impl.Kern, at int) *impl.KernThread {
	return &k.Threads[slices.IndexFunc(k.Threads, func(t impl.KernThread) bool { return t.At == at })]
}

// putSlot puts a slot behind the one at an address, as what came of it; at the end, if the address is 0.
func putSlot(k *impl.Kern, up int, at int, c impl.Cap) {
	if up == 0 {
		k.Slots = append(k.Slots, impl.TreeSlot{At: at, Cap: c})
		return
	}
	i := slices.IndexFunc(k.Slots, func(s impl.TreeSlot) bool { return s.At == up })
	k.Slots = slices.Insert(k.Slots, i+1, impl.TreeSlot{At: at, Cap: c, Depth: k.Slots[i].Depth + 1})
}

func cutSlot(k *impl.Kern, at int) {
	k.Slots = slices.DeleteFunc(k.Slots, func(s impl.TreeSlot) bool { return s.At == at })
}

// The document's words on states, written out anew, each line of its list by itself.

// upOf is the place of what a slot of a tree came of, or -1.
func upOf(slots []impl.TreeSlot, i int) int {
	up := i - 1
	for up >= 0 && slots[up].Depth >= slots[i].Depth {
		up--
	}
	return up
}

// bareOf says whether nothing came of a slot of a tree.
func bareOf(slots []impl.TreeSlot, i int) bool {
	return i+1 == len(slots) || slots[i+1].Depth <= slots[i].Depth
}

func wordsOf(c impl.Cap) int {
	if c.Kind == impl.CapReply {
		return 32
	}
	return impl.CapSize(c.Kind, c.Bits)
}

func holdsSlots(c impl.Cap) bool {
	return c.Orig && (c.Kind == impl.CapNode || c.Kind == impl.CapThread)
}

// innerOf is the places of the slots in the object of a capability, by their addresses.
func innerOf(slots []impl.TreeSlot, c impl.Cap) []int {
	var inner []int
	for i, s := range slots {
		if s.At >= c.Addr && s.At < c.Addr+wordsOf(c) {
			inner = append(inner, i)
		}
	}
	slices.SortFunc(inner, func(a int, b int) int { return cmp.Compare(slots[a].At, slots[b].At) })
	return inner
}

func times(list []int, at int) int {
	n := 0
	for _, other := range list {
		if other == at {
			n++
		}
	}
	return n
}

func wantKernNumbers(k impl.Kern) bool {
	return k.Bits >= 9 && k.Bits <= 12 && k.Ticks >= 0 && k.Ticks <= 1000000 && wantTreeOk(k.Slots)
}

// wantKernAts asks for one object for each original of a kind, no other, ascending.
func wantKernAts(k impl.Kern, kind int, ats []int) bool {
	n := 0
	for _, s := range k.Slots {
		if s.Cap.Orig && s.Cap.Kind == kind {
			n++
			if times(ats, s.Cap.Addr) != 1 {
				return false
			}
		}
	}
	for i := range ats {
		if i > 0 && ats[i] <= ats[i-1] {
			return false
		}
	}
	return n == len(ats)
}

func wantKernObjects(k impl.Kern) bool {
	var threads, ends, notes, frames []int
	for _, t := range k.Threads {
		threads = append(threads, t.At)
	}
	for _, e := range k.Ends {
		ends = append(ends, e.At)
	}
	for _, n := range k.Notes {
		notes = append(notes, n.At)
	}
	for _, f := range k.Frames {
		frames = append(frames, f.At)
		for _, s := range k.Slots {
			if s.Cap.Orig && s.Cap.Kind == impl.CapFrame && s.Cap.Addr == f.At && len(f.Data) != 1<<s.Cap.Bits {
				return false
			}
		}
	}
	return wantKernAts(k, impl.CapThread, threads) && wantKernAts(k, impl.CapEnd, ends) &&
		wantKernAts(k, impl.CapNote, notes) && wantKernAts(k, impl.CapFrame, frames)
}

func wantKernThread(k impl.Kern, t impl.KernThread) bool {
	sends, waits, listens := t.State == 2, t.State == 3, t.State == 5
	switch {
	case t.State < 0, t.State > 5, t.Prio < 0, t.Prio > 7, t.Max < 0, t.Max > 7, t.Slice < 1, t.Slice > 4:
		return false
	case t.Badge < 0, t.Badge > 65535, t.Flags < 0, t.Flags > 3, t.Pend < 0, t.Pend > 2:
		return false
	case !sends && (t.Badge != 0 || t.Msg != 0 || t.Flags != 0):
		return false
	case !sends && !waits && t.Xfer != 0:
		return false
	case t.State != 1 && t.Pend != 0, t.Pend == 0 && t.PendRef != 0:
		return false
	case !sends && !waits && !listens && t.On != 0:
		return false
	}
	there := false
	for _, e := range k.Ends {
		there = there || (sends && e.Kind == 1 || waits && e.Kind == 2) && e.At == t.On && times(e.List, t.At) == 1
	}
	for _, n := range k.Notes {
		there = there || listens && n.At == t.On && times(n.List, t.At) == 1
	}
	if (sends || waits || listens) && !there || t.State == 1 && times(k.Ready[t.Prio], t.At) != 1 {
		return false
	}
	replies := 0
	for _, s := range k.Slots {
		if s.Cap.Kind == impl.CapReply && s.Cap.Addr == t.At {
			replies++
		}
	}
	return replies == 1 && t.State == 4 || replies == 0 && t.State != 4
}

func wantKernThreads(k impl.Kern) bool {
	ready, runs := 0, 0
	for _, list := range k.Ready {
		ready += len(list)
	}
	for _, t := range k.Threads {
		if !wantKernThread(k, t) {
			return false
		}
		if t.State == 1 {
			runs++
		}
	}
	return ready == runs
}

// wantKernWaiters asks whether all in a list are threads of a state that wait at an object.
func wantKernWaiters(k impl.Kern, list []int, state int, on int) bool {
	for _, at := range list {
		found := false
		for _, t := range k.Threads {
			found = found || t.At == at && t.State == state && t.On == on
		}
		if !found {
			return false
		}
	}
	return true
}

func wantKernQueues(k impl.Kern) bool {
	for _, e := range k.Ends {
		if e.Kind < 0 || e.Kind > 2 || (e.Kind == 0) != (len(e.List) == 0) || !wantKernWaiters(k, e.List, e.Kind+1, e.At) {
			return false
		}
	}
	for _, n := range k.Notes {
		if n.Word < 0 || n.Word > 65535 || n.Active && len(n.List) > 0 || !n.Active && n.Word != 0 || !wantKernWaiters(k, n.List, 5, n.At) {
			return false
		}
	}
	return true
}

func wantKernHome(k impl.Kern, i int) bool {
	s := k.Slots[i]
	if s.At >= 64 && s.At < 128 {
		return s.Cap.Kind != impl.CapReply
	}
	inNode, inThread := false, false
	for _, other := range k.Slots {
		c := other.Cap
		if c.Orig && c.Kind == impl.CapNode && s.At >= c.Addr && s.At < c.Addr+wordsOf(c) {
			inNode = true
		}
		if !c.Orig || c.Kind != impl.CapThread {
			continue
		}
		for n, kind := range []int{impl.CapNode, impl.CapReply, impl.CapEnd} {
			if s.At != c.Addr+4*n {
				continue
			}
			inThread = true
			if s.Cap.Kind != kind || s.Cap.Orig || !bareOf(k.Slots, i) {
				return false
			}
		}
	}
	return inThread || inNode && s.Cap.Kind != impl.CapReply
}

func wantKernDerived(k impl.Kern, i int) bool {
	c := k.Slots[i].Cap
	if c.Addr < 128 || c.Addr+wordsOf(c) > 1<<k.Bits {
		return false
	}
	up := upOf(k.Slots, i)
	if !c.Orig {
		if up < 0 {
			return false
		}
		above := k.Slots[up].Cap
		if c.Kind == impl.CapReply {
			return above.Orig && above.Kind == impl.CapThread && above.Addr == c.Addr
		}
		return wantCapBelow(c, above)
	}
	if up >= 0 {
		above := k.Slots[up].Cap
		if above.Kind != impl.CapUntyped || c.Addr < above.Addr || c.Addr+wordsOf(c) > above.Addr+above.Free {
			return false
		}
	}
	for j, other := range k.Slots {
		o := other.Cap
		if j != i && o.Orig && upOf(k.Slots, j) == up && c.Addr < o.Addr+wordsOf(o) && o.Addr < c.Addr+wordsOf(c) {
			return false
		}
	}
	return true
}

func canGo(slots []impl.TreeSlot, i int) bool {
	return bareOf(slots, i) && (!holdsSlots(slots[i].Cap) || len(innerOf(slots, slots[i].Cap)) == 0)
}

func wantKernEmpties(slots []impl.TreeSlot) bool {
	left := slices.Clone(slots)
	for len(left) > 0 {
		i := 0
		for i < len(left) && !canGo(left, i) {
			i++
		}
		if i == len(left) {
			return false
		}
		left = slices.Delete(left, i, i+1)
	}
	return true
}

func wantKernOk(k impl.Kern) bool {
	if !wantKernNumbers(k) || !wantKernObjects(k) || !wantKernThreads(k) || !wantKernQueues(k) {
		return false
	}
	for i := range k.Slots {
		if !wantKernHome(k, i) || !wantKernDerived(k, i) {
			return false
		}
	}
	return wantKernEmpties(k.Slots)
}

// wantKernNext is for a state that is ok.
func wantKernNext(k impl.Kern, at int) int {
	i := slices.IndexFunc(k.Slots, func(s impl.TreeSlot) bool { return s.At == at })
	if i < 0 {
		return -1
	}
	for {
		for !bareOf(k.Slots, i) {
			i++
		}
		if !holdsSlots(k.Slots[i].Cap) {
			return k.Slots[i].At
		}
		inner := innerOf(k.Slots, k.Slots[i].Cap)
		if len(inner) == 0 {
			return k.Slots[i].At
		}
		i = inner[0]
	}
}

// wantKernCur is for a state that is ok.
func wantKernCur(k impl.Kern) int {
	cur := 0
	for _, list := range k.Ready {
		if len(list) > 0 {
			cur = list[0]
		}
	}
	return cur
}

// wantKernSame takes empty lists for nil ones.
func wantKernSame(a impl.Kern, b impl.Kern) bool {
	return reflect.DeepEqual(withNil(a), withNil(b))
}

func nilOf[T any](list []T) []T {
	if len(list) == 0 {
		return nil
	}
	return list
}

func withNil(k impl.Kern) impl.Kern {
	c := kernCopy(k)
	c.Slots, c.Threads, c.Ends, c.Notes, c.Frames = nilOf(c.Slots), nilOf(c.Threads), nilOf(c.Ends), nilOf(c.Notes), nilOf(c.Frames)
	for i := range c.Ends {
		c.Ends[i].List = nilOf(c.Ends[i].List)
	}
	for i := range c.Notes {
		c.Notes[i].List = nilOf(c.Notes[i].List)
	}
	for i := range c.Frames {
		c.Frames[i].Data = nilOf(c.Frames[i].Data)
	}
	for prio := range c.Ready {
		c.Ready[prio] = nilOf(c.Ready[prio])
	}
	return c
}

// Making of states that are ok, by chance.

type kernMaker struct {
	r    *rand.Rand
	k    impl.Kern
	room []int // slots that hold nothing, but those of threads
	end  int   // where what is laid ends
}

// anyKern is a state that is ok, made in so many steps. Originals lie in slots that were there ahead of them, so all can be taken back.
func anyKern(r *rand.Rand, steps int) impl.Kern {
	m := &kernMaker{r: r, end: 128}
	m.k.Bits = 9 + r.Intn(4)
	m.k.Ticks = []int{0, r.Intn(1000001), 1000000}[r.Intn(3)]
	for at := 64; at < 128; at += 4 {
		m.room = append(m.room, at)
	}
	for range steps {
		switch m.r.Intn(8) {
		case 0, 1, 2:
			m.original()
		case 3:
			m.made()
		case 4, 5, 6:
			m.derived()
		default:
			m.threadSlot()
		}
	}
	for i := range m.k.Threads {
		m.setThread(i)
	}
	return m.k
}

func (m *kernMaker) takeRoom() (int, bool) {
	if len(m.room) == 0 || len(m.k.Slots) == 300 {
		return 0, false
	}
	i := m.r.Intn(len(m.room))
	at := m.room[i]
	m.room = slices.Delete(m.room, i, i+1)
	return at, true
}

func (m *kernMaker) anyKind() (int, int) {
	kind := 1 + m.r.Intn(6)
	if len(m.room) < 3 && m.r.Intn(4) > 0 {
		kind = impl.CapNode
	}
	switch kind {
	case impl.CapUntyped:
		return kind, 2 + m.r.Intn(6)
	case impl.CapNode:
		return kind, 1 + m.r.Intn(m.k.Bits-7)
	case impl.CapFrame:
		return kind, m.r.Intn(4)
	}
	return kind, 0
}

func alignUp(at int, size int) int { return (at + size - 1) / size * size }

func (m *kernMaker) original() {
	kind, bits := m.anyKind()
	addr := alignUp(m.end+m.r.Intn(2)*m.r.Intn(20), impl.CapSize(kind, bits))
	if addr+impl.CapSize(kind, bits) > 1<<m.k.Bits {
		return
	}
	at, ok := m.takeRoom()
	if !ok {
		return
	}
	m.end = addr + impl.CapSize(kind, bits)
	m.k.Slots = append(m.k.Slots, impl.TreeSlot{At: at, Cap: m.newCap(kind, addr, bits)})
	m.object(kind, addr, bits)
}

// newCap is an original, mostly with all rights.
func (m *kernMaker) newCap(kind int, addr int, bits int) impl.Cap {
	c := origOf(kind, addr, bits)
	if m.r.Intn(8) == 0 {
		c.Rights &= m.r.Intn(8)
	}
	if kind == impl.CapUntyped && m.r.Intn(4) == 0 {
		c.Free = m.r.Intn(impl.CapSize(kind, bits) + 1)
	}
	return c
}

// made makes an original out of a region.
func (m *kernMaker) made() {
	var regions []int
	for i, s := range m.k.Slots {
		if s.Cap.Kind == impl.CapUntyped && s.Depth < 12 {
			regions = append(regions, i)
		}
	}
	if len(regions) == 0 {
		return
	}
	up := regions[m.r.Intn(len(regions))]
	region := &m.k.Slots[up]
	kind, bits := m.anyKind()
	size := impl.CapSize(kind, bits)
	addr := alignUp(region.Cap.Addr+region.Cap.Free, size)
	if addr+size > region.Cap.Addr+impl.CapSize(impl.CapUntyped, region.Cap.Bits) {
		return
	}
	at, ok := m.takeRoom()
	if !ok {
		return
	}
	region.Cap.Free = addr + size - region.Cap.Addr
	m.k.Slots = slices.Insert(m.k.Slots, up+1, impl.TreeSlot{At: at, Cap: m.newCap(kind, addr, bits), Depth: region.Depth + 1})
	m.object(kind, addr, bits)
}

// object is put into its list, by its address.
func (m *kernMaker) object(kind int, addr int, bits int) {
	switch kind {
	case impl.CapNode:
		for at := addr; at < addr+impl.CapSize(kind, bits); at += 4 {
			m.room = append(m.room, at)
		}
	case impl.CapThread:
		m.k.Threads = append(m.k.Threads, impl.KernThread{At: addr, Slice: 4})
		slices.SortFunc(m.k.Threads, func(a, b impl.KernThread) int { return cmp.Compare(a.At, b.At) })
	case impl.CapEnd:
		m.k.Ends = append(m.k.Ends, impl.KernEnd{At: addr})
		slices.SortFunc(m.k.Ends, func(a, b impl.KernEnd) int { return cmp.Compare(a.At, b.At) })
	case impl.CapNote:
		m.k.Notes = append(m.k.Notes, impl.KernNote{At: addr})
		slices.SortFunc(m.k.Notes, func(a, b impl.KernNote) int { return cmp.Compare(a.At, b.At) })
	case impl.CapFrame:
		data := make([]uint32, 1<<bits)
		for i := range data {
			data[i] = m.r.Uint32()
		}
		m.k.Frames = append(m.k.Frames, impl.KernFrame{At: addr, Data: data})
		slices.SortFunc(m.k.Frames, func(a, b impl.KernFrame) int { return cmp.Compare(a.At, b.At) })
	}
}

// inThread says whether a slot is one of a thread.
func (m *kernMaker) inThread(at int) bool {
	return slices.ContainsFunc(m.k.Threads, func(t impl.KernThread) bool { return at >= t.At && at < t.At+12 })
}

// source is the place of a capability of a kind (0 for any) that may be handed on, or -1.
func (m *kernMaker) source(kind int) int {
	var list []int
	for i, s := range m.k.Slots {
		if s.Cap.Kind != impl.CapUntyped && s.Cap.Kind != impl.CapReply && s.Depth < 12 && !m.inThread(s.At) && (kind == 0 || s.Cap.Kind == kind) {
			list = append(list, i)
		}
	}
	if len(list) == 0 {
		return -1
	}
	return list[m.r.Intn(len(list))]
}

// less is what may be derived of a capability.
func (m *kernMaker) less(c impl.Cap) impl.Cap {
	c.Orig = false
	c.Rights &= m.r.Intn(8) | m.r.Intn(8)
	if (c.Kind == impl.CapEnd || c.Kind == impl.CapNote) && c.Badge == 0 && m.r.Intn(2) == 0 {
		c.Badge = []int{1, 65535, m.r.Intn(65536)}[m.r.Intn(3)]
	}
	if c.Kind == impl.CapNode && m.r.Intn(3) == 0 {
		c.GuardBits = m.r.Intn(9)
		c.Guard = m.r.Intn(1 << c.GuardBits)
	}
	return c
}

func (m *kernMaker) derived() {
	up := m.source(0)
	// The last slots are left for nodes, so that states can grow.
	if up < 0 || len(m.room) < 3 && m.r.Intn(16) > 0 {
		return
	}
	if at, ok := m.takeRoom(); ok {
		s := m.k.Slots[up]
		m.k.Slots = slices.Insert(m.k.Slots, up+1, impl.TreeSlot{At: at, Cap: m.less(s.Cap), Depth: s.Depth + 1})
	}
}

// threadSlot fills a thread's space or handler.
func (m *kernMaker) threadSlot() {
	if len(m.k.Threads) == 0 || len(m.k.Slots) == 300 {
		return
	}
	at, kind := m.k.Threads[m.r.Intn(len(m.k.Threads))].At, impl.CapNode
	if m.r.Intn(2) == 0 {
		at, kind = at+8, impl.CapEnd
	}
	up := m.source(kind)
	if up < 0 || m.taken(at) {
		return
	}
	s := m.k.Slots[up]
	m.k.Slots = slices.Insert(m.k.Slots, up+1, impl.TreeSlot{At: at, Cap: m.less(s.Cap), Depth: s.Depth + 1})
}

func (m *kernMaker) taken(at int) bool {
	return slices.ContainsFunc(m.k.Slots, func(s impl.TreeSlot) bool { return s.At == at })
}

// setThread gives a thread a state, as far as there is where to wait.
func (m *kernMaker) setThread(i int) {
	t := &m.k.Threads[i]
	t.Prio, t.Max, t.Slice = m.r.Intn(8), m.r.Intn(8), 1+m.r.Intn(4)
	t.Out = [3]uint32{uint32(m.r.Intn(17)), m.r.Uint32(), m.r.Uint32()}
	switch m.r.Intn(6) {
	case impl.KernRuns:
		t.State = impl.KernRuns
		m.k.Ready[t.Prio] = slices.Insert(m.k.Ready[t.Prio], m.r.Intn(len(m.k.Ready[t.Prio])+1), t.At)
		if m.r.Intn(3) == 0 {
			t.Pend, t.PendRef = 1+m.r.Intn(2), uint32(m.r.Intn(3))*m.r.Uint32()
		}
	case impl.KernSends:
		m.atEnd(t, 1)
	case impl.KernWaits:
		m.atEnd(t, 2)
	case impl.KernCalls:
		m.calls(t)
	case impl.KernListens:
		m.listens(t)
	}
}

func (m *kernMaker) atEnd(t *impl.KernThread, kind int) {
	for i := range m.k.Ends {
		e := &m.k.Ends[i]
		if e.Kind != 0 && e.Kind != kind || m.r.Intn(2) == 0 {
			continue
		}
		e.Kind = kind
		e.List = append(e.List, t.At)
		t.State, t.On, t.Xfer = kind+1, e.At, m.r.Uint32()
		if kind == 1 {
			t.Badge, t.Msg, t.Flags = m.r.Intn(65536), m.r.Uint32(), m.r.Intn(4)
		}
		return
	}
}

func (m *kernMaker) listens(t *impl.KernThread) {
	for i := range m.k.Notes {
		n := &m.k.Notes[i]
		if len(n.List) == 0 && m.r.Intn(2) == 0 {
			n.Active, n.Word = true, m.r.Intn(65536)
		}
		if !n.Active && m.r.Intn(2) == 0 {
			n.List = append(n.List, t.At)
			t.State, t.On = impl.KernListens, n.At
			return
		}
	}
}

// calls lets a thread wait for a reply that some thread holds, itself not barred.
func (m *kernMaker) calls(t *impl.KernThread) {
	caller := m.k.Threads[m.r.Intn(len(m.k.Threads))].At + 4
	for i, s := range m.k.Slots {
		if s.Cap.Orig && s.Cap.Kind == impl.CapThread && s.Cap.Addr == t.At && s.Depth < 12 && !m.taken(caller) && len(m.k.Slots) < 300 {
			t.State = impl.KernCalls
			m.k.Slots = slices.Insert(m.k.Slots, i+1, impl.TreeSlot{At: caller, Cap: copyOf(impl.CapReply, t.At, 0), Depth: s.Depth + 1})
			return
		}
	}
}
