package tests

import (
	"math"
	"math/rand"
	"slices"
	"strconv"
	"strings"

	"loop.example/donjon/impl"
)

// guarded is a copy of a node with a guard, which is written in its bits.
func guarded(addr int, bits int, guard string) impl.Cap {
	c := copyOf(impl.CapNode, addr, bits)
	n, _ := strconv.ParseInt("0"+guard, 2, 0)
	c.Guard, c.GuardBits = int(n), len(guard)
	return c
}

// kernSpaces is nodes of 1, 2, 3 and 5 bits that name each other and themselves, with guards and without, and with something of each kind that a node can hold. The space of the thread at 160 is the node at 128, that of the thread at 192 holds nothing, and that of the one at 224 is the node at 128 with a guard of 8 bits.
//
//	128: itself, 256 (guard 101), 384 (guard 0000), a thread, an endpoint, a notification, a frame, nothing
//	256: a region, 416, 512, 128 (guard 10), nothing .., 416 (guard 11111111)
//	384: nothing, itself (guard 1)
//	416: nothing, nothing, nothing, 384
//	512: nothing, 416 (guard 0)
func kernSpaces() impl.Kern {
	return impl.Kern{
		Bits: 10,
		Slots: []impl.TreeSlot{
			{At: 64, Cap: origOf(impl.CapNode, 128, 3)},
			{At: 160, Cap: copyOf(impl.CapNode, 128, 3), Depth: 1},
			{At: 128, Cap: copyOf(impl.CapNode, 128, 3), Depth: 1},
			{At: 224, Cap: guarded(128, 3, "10100101"), Depth: 1},
			{At: 268, Cap: guarded(128, 3, "10"), Depth: 1},
			{At: 68, Cap: origOf(impl.CapThread, 160, 0)},
			{At: 140, Cap: copyOf(impl.CapThread, 160, 0), Depth: 1},
			{At: 72, Cap: origOf(impl.CapThread, 192, 0)},
			{At: 76, Cap: origOf(impl.CapThread, 224, 0)},
			{At: 80, Cap: origOf(impl.CapNode, 256, 5)},
			{At: 132, Cap: guarded(256, 5, "101"), Depth: 1},
			{At: 84, Cap: origOf(impl.CapNode, 384, 1)},
			{At: 136, Cap: guarded(384, 1, "0000"), Depth: 1},
			{At: 388, Cap: guarded(384, 1, "1"), Depth: 1},
			{At: 428, Cap: copyOf(impl.CapNode, 384, 1), Depth: 1},
			{At: 88, Cap: origOf(impl.CapEnd, 392, 0)},
			{At: 144, Cap: endOf(392, 3, 9), Depth: 1},
			{At: 92, Cap: origOf(impl.CapNote, 396, 0)},
			{At: 148, Cap: copyOf(impl.CapNote, 396, 0), Depth: 1},
			{At: 96, Cap: origOf(impl.CapFrame, 400, 2)},
			{At: 152, Cap: copyOf(impl.CapFrame, 400, 2), Depth: 1},
			{At: 100, Cap: origOf(impl.CapNode, 416, 2)},
			{At: 260, Cap: copyOf(impl.CapNode, 416, 2), Depth: 1},
			{At: 380, Cap: guarded(416, 2, "11111111"), Depth: 1},
			{At: 516, Cap: guarded(416, 2, "0"), Depth: 1},
			{At: 256, Cap: regionOf(512, 5, 8)},
			{At: 264, Cap: origOf(impl.CapNode, 512, 1), Depth: 1},
		},
		Threads: []impl.KernThread{
			{At: 160, State: impl.KernRuns, Prio: 4, Slice: 4},
			{At: 192, Slice: 4},
			{At: 224, Slice: 4},
		},
		Ends:   []impl.KernEnd{{At: 392}},
		Notes:  []impl.KernNote{{At: 396}},
		Frames: []impl.KernFrame{{At: 400, Data: []uint32{1, 2, 3, 4}}},
		Ready:  [8][]int{4: {160}},
	}
}

// kernOneNode is a node of so many bits whose slots all hold it, with a guard each: the first with no bits, and so on.
func kernOneNode(bits int) impl.Kern {
	k := impl.Kern{Bits: 9, Slots: []impl.TreeSlot{{At: 64, Cap: origOf(impl.CapNode, 256, bits)}}}
	for i := range 1 << bits {
		k.Slots = append(k.Slots, impl.TreeSlot{At: 256 + 4*i, Cap: guarded(256, bits, strings.Repeat("1", i%9)), Depth: 1})
	}
	return k
}

// refOf is the reference of bits that are written out, which spaces may set apart.
func refOf(bits string) uint32 {
	bits = strings.ReplaceAll(bits, " ", "")
	n, err := strconv.ParseUint(bits, 2, 16)
	if err != nil {
		panic(err)
	}
	return uint32(len(bits))*65536 + uint32(n)
}

// allRefs is all references of 1 to so many bits.
func allRefs(bits int) []uint32 {
	var refs []uint32
	for n := 1; n <= bits; n++ {
		for addr := range 1 << n {
			refs = append(refs, uint32(n)*65536+uint32(addr))
		}
	}
	return refs
}

// wrongRefs is such as have no bits, too many, or an address that needs more.
func wrongRefs() []uint32 {
	refs := []uint32{0, 1, 2, 128, 32768, 65535, math.MaxInt32, 1 << 31, math.MaxUint32 - 65535, math.MaxUint32 - 1, math.MaxUint32}
	for _, bits := range []uint32{17, 18, 19, 24, 31, 32, 33, 35, 48, 63, 64, 65, 67, 127, 128, 131, 255, 256, 259, 4096, 32767, 32768, 32771, 65535} {
		refs = append(refs, bits<<16, bits<<16|1, bits<<16|5, bits<<16|65535)
	}
	for bits := uint32(1); bits < 16; bits++ {
		refs = append(refs, bits<<16|1<<bits, bits<<16|1<<bits|1, bits<<16|32768, bits<<16|65535)
	}
	return refs
}

// The document's words on looking up, written out anew, with bits as texts.

// bitsOf is a number as so many bits, or more, if it needs more.
func bitsOf(n int, bits int) string {
	if n == 0 {
		return strings.Repeat("0", bits)
	}
	text := strconv.FormatInt(int64(n), 2)
	return strings.Repeat("0", max(0, bits-len(text))) + text
}

func wantLookRef(bits int, addr int) uint32 {
	if bits < 1 || bits > 16 || addr < 0 || len(bitsOf(addr, bits)) > bits {
		return 0
	}
	return uint32(addr + 65536*bits)
}

// lookWant is an answer, and how it comes about: in which step of which round, both from 1 on, or in none.
type lookWant struct {
	at    int
	code  int
	left  int
	step  int
	round int
}

func heldAt(k impl.Kern, at int) (impl.Cap, bool) {
	for _, s := range k.Slots {
		if s.At == at {
			return s.Cap, true
		}
	}
	return impl.Cap{}, false
}

func wantRounds(k impl.Kern, c impl.Cap, bits string, round int) lookWant {
	n := len(bits)
	if c.Kind != 2 {
		return lookWant{code: 1, left: n, step: 1, round: round}
	}
	behind, met := strings.CutPrefix(bits, bitsOf(c.Guard, c.GuardBits))
	if !met {
		return lookWant{code: 2, left: n, step: 2, round: round}
	}
	if len(behind) < c.Bits {
		return lookWant{code: 3, left: n, step: 3, round: round}
	}
	slot, err := strconv.ParseInt(behind[:c.Bits], 2, 0)
	if err != nil {
		panic(err)
	}
	at, rest := c.Addr+4*int(slot), behind[c.Bits:]
	if rest == "" {
		return lookWant{at: at, step: 4, round: round}
	}
	held, ok := heldAt(k, at)
	if !ok {
		return lookWant{code: 1, left: len(rest), step: 4, round: round}
	}
	return wantRounds(k, held, rest, round+1)
}

// wantLookSlot is for a state that is ok.
func wantLookSlot(k impl.Kern, root impl.Cap, ref uint32) lookWant {
	there := slices.ContainsFunc(k.Slots, func(s impl.TreeSlot) bool {
		return s.Cap.Orig && s.Cap.Kind == 2 && s.Cap.Addr == root.Addr && s.Cap.Bits == root.Bits
	})
	if root.Kind == 2 && (!there || !wantCapOk(root)) {
		return lookWant{code: 1}
	}
	bits, addr := int(ref/65536), int(ref%65536)
	if bits < 1 || bits > 16 || len(bitsOf(addr, bits)) > bits {
		return lookWant{code: 3}
	}
	return wantRounds(k, root, bitsOf(addr, bits), 1)
}

// wantLookFrom is for a state that is ok.
func wantLookFrom(k impl.Kern, thread int, ref uint32) lookWant {
	if !slices.ContainsFunc(k.Threads, func(t impl.KernThread) bool { return t.At == thread }) {
		return lookWant{code: 1}
	}
	space, _ := heldAt(k, thread)
	return wantLookSlot(k, space, ref)
}

// wantLookCap is for a state that is ok.
func wantLookCap(k impl.Kern, thread int, ref uint32) (impl.Cap, lookWant) {
	want := wantLookFrom(k, thread, ref)
	if want.code != 0 {
		return impl.Cap{}, want
	}
	c, ok := heldAt(k, want.at)
	if !ok {
		return impl.Cap{}, lookWant{code: 1}
	}
	return c, lookWant{}
}

// walkBits is bits that lead from a capability on, mostly so that a slot is found, now and then with a guard that is not met, with too few bits or with some that lead on from nothing.
func walkBits(r *rand.Rand, k impl.Kern, c impl.Cap) string {
	bits := ""
	for len(bits) < 16 && c.Kind == impl.CapNode {
		guard := []byte(bitsOf(c.Guard, c.GuardBits))
		if len(guard) > 0 && r.Intn(12) == 0 {
			guard[r.Intn(len(guard))] ^= 1
		}
		slot := r.Intn(1 << c.Bits)
		held, ok := heldAt(k, c.Addr+4*slot)
		for range 6 {
			if held.Kind == impl.CapNode {
				break
			}
			slot = r.Intn(1 << c.Bits)
			held, ok = heldAt(k, c.Addr+4*slot)
		}
		bits += string(guard) + bitsOf(slot, c.Bits)
		if !ok || r.Intn(4) == 0 {
			break
		}
		c = held
	}
	if r.Intn(8) == 0 {
		bits += bitsOf(r.Intn(8), 3)
	}
	if len(bits) == 0 {
		return "0"
	}
	if r.Intn(16) == 0 {
		bits = bits[:1+r.Intn(len(bits))]
	}
	return bits[:min(len(bits), 16)]
}
