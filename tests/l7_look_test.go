package tests

import (
	"fmt"
	"math"
	"math/rand"
	"reflect"
	"slices"
	"strings"
	"testing"

	"loop.example/donjon/impl"
)

// lookAnswer is what LookSlot and LookFrom answer.
type lookAnswer struct {
	at   int
	code int
	left int
}

func slotAnswer(k impl.Kern, root impl.Cap, ref uint32) lookAnswer {
	at, code, left := impl.LookSlot(k, root, ref)
	return lookAnswer{at, code, left}
}

func fromAnswer(k impl.Kern, thread int, ref uint32) lookAnswer {
	at, code, left := impl.LookFrom(k, thread, ref)
	return lookAnswer{at, code, left}
}

func (w lookWant) answer() lookAnswer { return lookAnswer{w.at, w.code, w.left} }

// checkPromise11 asks for the original of a node in which a slot lies that was found, and for no part of an answer beside a code.
func checkPromise11(t *testing.T, k impl.Kern, ref uint32, got lookAnswer) {
	t.Helper()
	if got.code != impl.CodeOk {
		if got.at != 0 || got.left < 0 || got.left > int(ref>>16) {
			t.Fatalf("%x: %v", ref, got)
		}
		return
	}
	for _, s := range k.Slots {
		if s.Cap.Orig && s.Cap.Kind == impl.CapNode && got.at >= s.Cap.Addr && got.at < s.Cap.Addr+4<<s.Cap.Bits && got.at%4 == 0 && got.left == 0 {
			return
		}
	}
	t.Fatalf("%x: no node in which %v lies\n%+v", ref, got, k)
}

// checkSlot holds LookSlot against the document, in a state that is ok; it answers what was wanted.
func checkSlot(t *testing.T, k impl.Kern, root impl.Cap, ref uint32) lookWant {
	t.Helper()
	got, want := slotAnswer(k, root, ref), wantLookSlot(k, root, ref)
	if got != want.answer() {
		t.Fatalf("LookSlot %x from %+v: %v, want %+v\n%+v", ref, root, got, want, k)
	}
	checkPromise11(t, k, ref, got)
	return want
}

// checkFrom holds LookFrom and LookCap against the document, in a state that is ok; it answers what was wanted.
func checkFrom(t *testing.T, k impl.Kern, thread int, ref uint32) lookWant {
	t.Helper()
	got, want := fromAnswer(k, thread, ref), wantLookFrom(k, thread, ref)
	if got != want.answer() {
		t.Fatalf("LookFrom %x from %d: %v, want %+v\n%+v", ref, thread, got, want, k)
	}
	checkPromise11(t, k, ref, got)
	c, code, left := impl.LookCap(k, thread, ref)
	wantCap, wantHeld := wantLookCap(k, thread, ref)
	if c != wantCap || code != wantHeld.code || left != wantHeld.left {
		t.Fatalf("LookCap %x from %d: %v %d %d, want %v %+v\n%+v", ref, thread, c, code, left, wantCap, wantHeld, k)
	}
	return want
}

// refusedLook asks for the one answer of a state that is not ok.
func refusedLook(t *testing.T, name string, k impl.Kern, roots []impl.Cap, threads []int, refs []uint32) {
	t.Helper()
	missing := lookAnswer{code: impl.CodeMissing}
	for _, ref := range refs {
		for _, root := range roots {
			if got := slotAnswer(k, root, ref); got != missing {
				t.Fatalf("%s: LookSlot %x from %v: %v", name, ref, root, got)
			}
		}
		for _, thread := range threads {
			if got := fromAnswer(k, thread, ref); got != missing {
				t.Fatalf("%s: LookFrom %x from %d: %v", name, ref, thread, got)
			}
			if c, code, left := impl.LookCap(k, thread, ref); c != (impl.Cap{}) || code != impl.CodeMissing || left != 0 {
				t.Fatalf("%s: LookCap %x from %d: %v %d %d", name, ref, thread, c, code, left)
			}
		}
	}
}

// nodesOf is all capabilities of nodes in a state, each once.
func nodesOf(k impl.Kern) []impl.Cap {
	var roots []impl.Cap
	for _, s := range k.Slots {
		if s.Cap.Kind == impl.CapNode && !slices.Contains(roots, s.Cap) {
			roots = append(roots, s.Cap)
		}
	}
	return roots
}

func threadsOf(k impl.Kern) []int {
	var list []int
	for _, t := range k.Threads {
		list = append(list, t.At)
	}
	return list
}

func TestLookCodes(t *testing.T) {
	codes := []int{
		impl.CodeOk, impl.CodeMissing, impl.CodeGuard, impl.CodeDepth, impl.CodeKind, impl.CodeRight, impl.CodeTaken, impl.CodeEmpty, impl.CodeRange,
		impl.CodeRoom, impl.CodeOrig, impl.CodeDeep, impl.CodeBusy, impl.CodeGone, impl.CodeOp, impl.CodeBlocked, impl.CodeServed,
	}
	for i, code := range codes {
		if code != i {
			t.Error("code", i, code)
		}
	}
	if impl.CodeWithCap != 64 {
		t.Error(impl.CodeWithCap)
	}
}

// The states that the tests look up in are ok.
func TestLookStates(t *testing.T) {
	states := []impl.Kern{kernSpaces(), kernNested(16), kernNested(17), kernNested(18)}
	for bits := 1; bits <= 5; bits++ {
		states = append(states, kernOneNode(bits))
	}
	for i, k := range states {
		if !checkKernOk(t, k) {
			t.Error("not ok", i)
		}
	}
}

func TestLookRefWrittenOut(t *testing.T) {
	cases := []struct {
		bits int
		addr int
		ref  uint32
	}{
		{1, 0, 0x10000}, {1, 1, 0x10001}, {1, 2, 0}, {1, -1, 0},
		{2, 3, 0x20003}, {2, 4, 0}, {3, 7, 0x30007}, {3, 8, 0},
		{8, 255, 0x800ff}, {8, 256, 0}, {15, 32767, 0xf7fff}, {15, 32768, 0},
		{16, 0, 0x100000}, {16, 32768, 0x108000}, {16, 65535, 0x10ffff}, {16, 65536, 0}, {16, 65537, 0}, {16, -1, 0},
		{0, 0, 0}, {0, 1, 0}, {0, -1, 0}, {17, 0, 0}, {17, 1, 0}, {17, 65535, 0}, {17, 131071, 0}, {-1, 0, 0}, {-16, 0, 0},
		{math.MinInt, 0, 0}, {math.MaxInt, 0, 0}, {math.MinInt, math.MinInt, 0}, {math.MaxInt, math.MaxInt, 0},
		{16, math.MinInt, 0}, {16, math.MaxInt, 0}, {1, math.MinInt + 1, 0}, {16, 1 << 32, 0}, {16, 1<<32 + 1, 0},
		{1<<32 + 1, 0, 0}, {math.MinInt + 1, 0, 0}, {math.MinInt + 16, 1, 0}, {65, 1, 0}, {64, 0, 0}, {32, 1, 0},
	}
	for _, c := range cases {
		if got := impl.LookRef(c.bits, c.addr); got != c.ref {
			t.Errorf("LookRef(%d, %d): %x, want %x", c.bits, c.addr, got, c.ref)
		}
		if want := wantLookRef(c.bits, c.addr); want != c.ref {
			t.Errorf("the test's own answer of %d, %d is %x", c.bits, c.addr, want)
		}
	}
}

func TestLookRefEverywhere(t *testing.T) {
	all := append([]int{}, farInts...)
	for bits := -3; bits <= 20; bits++ {
		all = append(all, bits)
	}
	for _, bits := range all {
		addrs := append([]int{-2, -1, 0, 1, 2, 65534, 65535, 65536, 65537}, farInts...)
		for n := range 64 {
			addrs = append(addrs, 1<<n-1, 1<<n, 1<<n+1, -1<<n)
		}
		for _, addr := range addrs {
			if got, want := impl.LookRef(bits, addr), wantLookRef(bits, addr); got != want {
				t.Fatalf("LookRef(%d, %d): %x, want %x", bits, addr, got, want)
			}
		}
	}
	// Each reference is another one, and none is 0.
	seen := map[uint32]bool{0: true}
	for bits := 1; bits <= 16; bits++ {
		for addr := range 1 << bits {
			ref := impl.LookRef(bits, addr)
			if seen[ref] || int(ref) != 65536*bits+addr {
				t.Fatalf("LookRef(%d, %d): %x", bits, addr, ref)
			}
			seen[ref] = true
		}
	}
}

// lookCase is bits that are written out, and what they lead to.
type lookCase struct {
	bits string
	want lookAnswer
}

func checkLookCases(t *testing.T, name string, cases []lookCase, look func(ref uint32) (lookAnswer, lookWant)) {
	t.Helper()
	for _, c := range cases {
		got, want := look(refOf(c.bits))
		if got != c.want {
			t.Errorf("%s: %s: %v, want %v", name, c.bits, got, c.want)
		}
		if want.answer() != c.want {
			t.Errorf("%s: %s: the test's own answer is %+v", name, c.bits, want)
		}
	}
}

func checkFromCases(t *testing.T, k impl.Kern, thread int, cases []lookCase) {
	t.Helper()
	checkLookCases(t, fmt.Sprint("from the thread at ", thread), cases, func(ref uint32) (lookAnswer, lookWant) {
		return fromAnswer(k, thread, ref), wantLookFrom(k, thread, ref)
	})
}

func checkSlotCases(t *testing.T, k impl.Kern, root impl.Cap, cases []lookCase) {
	t.Helper()
	checkLookCases(t, fmt.Sprint("from ", impl.CapText(root)), cases, func(ref uint32) (lookAnswer, lookWant) {
		return slotAnswer(k, root, ref), wantLookSlot(k, root, ref)
	})
}

func foundAt(at int) lookAnswer { return lookAnswer{at: at} }

func missingWith(left int) lookAnswer { return lookAnswer{code: impl.CodeMissing, left: left} }

func guardWith(left int) lookAnswer { return lookAnswer{code: impl.CodeGuard, left: left} }

func depthWith(left int) lookAnswer { return lookAnswer{code: impl.CodeDepth, left: left} }

// A root that has no guard: one node, two, and more.
func TestLookWrittenOutNodes(t *testing.T) {
	checkFromCases(t, kernSpaces(), 160, []lookCase{
		{"000", foundAt(128)},
		{"001", foundAt(132)},
		{"011", foundAt(140)},
		{"110", foundAt(152)},
		{"111", foundAt(156)},
		{"0", depthWith(1)},
		{"1", depthWith(1)},
		{"00", depthWith(2)},
		{"11", depthWith(2)},
		{"000 000", foundAt(128)},
		{"000 111", foundAt(156)},
		{"000 0", depthWith(1)},
		{"000 11", depthWith(2)},
		{"000 000 000 000 101", foundAt(148)},
		{"000 000 000 000 000 0", depthWith(1)},
		{"000 000 000 000 111 1", missingWith(1)},
		{"000 111 0", missingWith(1)},
		{"001 101 00001 00", foundAt(416)},
		{"001 101 00001 11", foundAt(428)},
		{"001 101 00001 1", depthWith(1)},
		{"001 101 00001 11 1", foundAt(388)},
		{"001 101 00001 11 0", foundAt(384)},
		{"001 101 00001 11 01", missingWith(1)},
		{"001 101 00001 11 011", missingWith(2)},
		{"001 101 00001 00 1", missingWith(1)},
		{"001 101 00010 0", foundAt(512)},
		{"001 101 00010 1", foundAt(516)},
		{"001 101 00010 0 1111", missingWith(4)},
		{"001 101 00010 1 0 10", foundAt(424)},
		{"001 101 00011 10 100", foundAt(144)},
	})
}

// A guard that a later node has, and how many bits are left in each step of each round.
func TestLookWrittenOutGuards(t *testing.T) {
	checkFromCases(t, kernSpaces(), 160, []lookCase{
		{"001 101 00000", foundAt(256)},
		{"001 101 11111", foundAt(380)},
		{"001 101 10110", foundAt(344)},
		{"001 100 00000", guardWith(8)},
		{"001 001 00000", guardWith(8)},
		{"001 111 11111", guardWith(8)},
		{"001 010 00000 00000", guardWith(13)},
		{"001 1", guardWith(1)},
		{"001 10", guardWith(2)},
		{"001 00", guardWith(2)},
		{"001 101", depthWith(3)},
		{"001 100", guardWith(3)},
		{"001 101 1", depthWith(4)},
		{"001 101 0000", depthWith(7)},
		{"010 0000 0", foundAt(384)},
		{"010 0000 1", foundAt(388)},
		{"010 0001 1", guardWith(5)},
		{"010 1000 0", guardWith(5)},
		{"010 0", guardWith(1)},
		{"010 000", guardWith(3)},
		{"010 0000", depthWith(4)},
		{"010 0000 0 1", missingWith(1)},
		{"010 0000 0 00000000", missingWith(8)},
		{"010 0000 1 1 0", foundAt(384)},
		{"010 0000 1 1 1", foundAt(388)},
		{"010 0000 1 0 1", guardWith(2)},
		{"010 0000 1 1", depthWith(1)},
		{"010 0000 1 0", guardWith(1)},
		{"010 0000 1 11 11 11 11", foundAt(388)},
		{"010 0000 1 11 11 11 01", guardWith(2)},
		{"010 0000 1 11 11 11 1", depthWith(1)},
		{"010 0000 1 11 11 10 11", missingWith(2)},
		{"001 101 00010 1 1 10", guardWith(3)},
		{"001 101 00010 1 0 1", depthWith(2)},
		{"001 101 00010 1 0", depthWith(1)},
		{"001 101 00011 11 100", guardWith(5)},
		{"001 101 00011 00 100", guardWith(5)},
		{"001 101 00011 10 10", depthWith(4)},
		{"001 101 00011 1", guardWith(1)},
	})
}

// Something of each kind that a node can hold, in the middle.
func TestLookWrittenOutKinds(t *testing.T) {
	k := kernSpaces()
	checkFromCases(t, k, 160, []lookCase{
		{"011 1", missingWith(1)},
		{"100 11", missingWith(2)},
		{"101 000", missingWith(3)},
		{"110 0101", missingWith(4)},
		{"111 00000", missingWith(5)},
		{"111 0000000000000", missingWith(13)},
		{"001 101 00000 1", missingWith(1)},
		{"001 101 00000 00000", missingWith(5)},
		{"001 101 00100 0", missingWith(1)},
		{"000 011 000", missingWith(3)},
	})
	kinds := map[int]bool{}
	for _, at := range []int{140, 144, 148, 152, 256} {
		c, _ := heldAt(k, at)
		kinds[c.Kind] = true
	}
	if len(kinds) != 5 || kinds[impl.CapNode] {
		t.Error("the slots are not as they were meant", kinds)
	}
}

// Roots with a guard.
func TestLookWrittenOutRoots(t *testing.T) {
	k := kernSpaces()
	checkFromCases(t, k, 224, []lookCase{
		{"10100101 011", foundAt(140)},
		{"10100101 111", foundAt(156)},
		{"10100101 000 000", foundAt(128)},
		{"10100101 001 101 00", depthWith(5)},
		{"10100101 001 111 00", guardWith(5)},
		{"10100100 011", guardWith(11)},
		{"00100101 011", guardWith(11)},
		{"1010010", guardWith(7)},
		{"1", guardWith(1)},
		{"10100101", depthWith(8)},
		{"10100101 0", depthWith(9)},
		{"10100101 01", depthWith(10)},
		{"10100101 111 00000", missingWith(5)},
		{"10100101 011 1", missingWith(1)},
		{"011", guardWith(3)},
	})
	checkSlotCases(t, k, copyOf(impl.CapNode, 256, 5), []lookCase{
		{"11111 11111111 01", foundAt(420)},
		{"11111 11111111 11 0", foundAt(384)},
		{"11111 11111110 01", guardWith(10)},
		{"11111 01111111 01", guardWith(10)},
		{"11111 1111111", guardWith(7)},
		{"11111 11111111", depthWith(8)},
		{"11111 11111111 0", depthWith(9)},
		{"11111 11111111 00 1", missingWith(1)},
		{"00011 10 000 001", foundAt(132)},
		{"1111", depthWith(4)},
	})
	checkSlotCases(t, k, guarded(384, 1, "00000000"), []lookCase{
		{"00000000 0", foundAt(384)},
		{"00000000 1", foundAt(388)},
		{"00000000", depthWith(8)},
		{"0000000", guardWith(7)},
		{"00000001 1", guardWith(9)},
		{"10000000 1", guardWith(9)},
		{"00000000 1 11 11 11", foundAt(388)},
		{"00000000 1 11 11 01", guardWith(2)},
	})
}

// The original is as good a root as what came of it, and neither must lie in a slot.
func TestLookRootInNoSlot(t *testing.T) {
	k := kernSpaces()
	for _, root := range []impl.Cap{origOf(impl.CapNode, 416, 2), copyOf(impl.CapNode, 416, 2), guarded(416, 2, "1"), guarded(416, 2, "0110")} {
		guard := bitsOf(root.Guard, root.GuardBits)
		checkSlotCases(t, k, root, []lookCase{
			{guard + "00", foundAt(416)},
			{guard + "11", foundAt(428)},
			{guard + "11 1", foundAt(388)},
			{guard + "11 1 11", foundAt(388)},
			{guard + "01 101", missingWith(3)},
		})
	}
	origin := guarded(416, 2, "10")
	origin.Orig = true
	checkSlotCases(t, k, origin, []lookCase{{"10 01", foundAt(420)}, {"11 01", guardWith(4)}, {"10 1", depthWith(3)}})
}

// As many nodes as 16 bits can lead through.
func TestLookThroughMany(t *testing.T) {
	root := copyOf(impl.CapNode, 128, 1)
	for nodes := 16; nodes <= 18; nodes++ {
		k := kernNested(nodes)
		for n := range 16 {
			ones := strings.Repeat("1", n)
			cases := []lookCase{{ones + "1", foundAt(132 + 8*n)}, {ones + "0", foundAt(128 + 8*n)}}
			if 1 <= n && n <= 14 {
				cases = append(cases, lookCase{ones + "01", missingWith(1)}, lookCase{ones + "0" + strings.Repeat("1", 15-n), missingWith(15 - n)})
			}
			checkSlotCases(t, k, root, cases)
		}
		last := 128 + 8*(nodes-1)
		checkSlotCases(t, k, root, []lookCase{{"0", foundAt(128)}, {"00", foundAt(last)}, {"01", foundAt(last + 4)}, {"011", missingWith(1)}, {"010", missingWith(1)}})
		for _, ref := range allRefs(6) {
			checkSlot(t, k, root, ref)
		}
	}
	if want := wantLookSlot(kernNested(16), root, refOf(strings.Repeat("1", 16))); want.round != 16 || want.at != 252 {
		t.Errorf("the walk is not as it was meant: %+v", want)
	}
}

// A node that holds itself in each slot, with guards of 0 to 8 bits.
func TestLookItself(t *testing.T) {
	r := rand.New(rand.NewSource(71))
	ended := map[int]int{}
	for bits := 1; bits <= 5; bits++ {
		k := kernOneNode(bits)
		root := copyOf(impl.CapNode, 256, bits)
		for _, ref := range allRefs(8) {
			checkSlot(t, k, root, ref)
		}
		zeros := strings.Repeat("0", 16/bits*bits)
		checkSlotCases(t, k, root, []lookCase{{zeros, foundAt(256)}})
		for range 1500 {
			ended[checkSlot(t, k, root, refOf(walkBits(r, k, root))).code]++
		}
	}
	if ended[0] < 500 || ended[2] < 100 || ended[3] < 100 || ended[1] != 0 {
		t.Error("the walks did not end as they were meant", ended)
	}
}

// guardCases is bits that begin with a guard, or with one that differs in one bit, and then have so many more.
func guardCases(guard string, more int) []string {
	rest := strings.Repeat("10", 8)[:more]
	cases := []string{guard + rest}
	for i := range guard {
		other := []byte(guard)
		other[i] ^= 1
		cases = append(cases, string(other)+rest)
	}
	return cases
}

// Each size of a node with each size of a guard, and each count of bits.
func TestLookSizes(t *testing.T) {
	ended := map[[2]int]int{}
	for bits := 1; bits <= 5; bits++ {
		k := impl.Kern{Bits: 12, Slots: []impl.TreeSlot{{At: 64, Cap: origOf(impl.CapNode, 1024, bits)}}}
		for guardBits := 0; guardBits <= 8; guardBits++ {
			for _, guard := range []int{0, 1, 1 << guardBits / 2, 1<<guardBits - 1, 0xa5 & (1<<guardBits - 1)} {
				if guard >= 1<<guardBits {
					continue
				}
				root := guarded(1024, bits, bitsOf(guard, guardBits))
				for more := 0; guardBits+more <= 16; more++ {
					for _, text := range guardCases(bitsOf(guard, guardBits), more) {
						for n := max(1, len(text)-1); n <= len(text); n++ {
							want := checkSlot(t, k, root, refOf(text[:n]))
							ended[[2]int{want.step, want.code}]++
						}
					}
				}
			}
		}
	}
	if ended[[2]int{2, 2}] < 1000 || ended[[2]int{3, 3}] < 100 || ended[[2]int{4, 0}] < 50 || ended[[2]int{4, 1}] < 100 {
		t.Error("the walks did not end as they were meant", ended)
	}
}

// Each slot of a node is found by its number, and no other word is.
func TestLookEachSlot(t *testing.T) {
	for bits := 1; bits <= 5; bits++ {
		k := impl.Kern{Bits: 9, Slots: []impl.TreeSlot{{At: 68, Cap: origOf(impl.CapNode, 384, bits)}}}
		for slot := range 1 << bits {
			for _, guard := range []string{"", "0", "1", "10110", "11111111"} {
				root := guarded(384, bits, guard)
				checkSlotCases(t, k, root, []lookCase{{guard + bitsOf(slot, bits), foundAt(384 + 4*slot)}})
			}
		}
	}
}

func TestLookWrongRefs(t *testing.T) {
	k := kernSpaces()
	roots := []impl.Cap{copyOf(impl.CapNode, 128, 3), origOf(impl.CapNode, 384, 1), guarded(256, 5, "101"), {}, endOf(392, 3, 9), {Kind: 77, Addr: -1}}
	depth := depthWith(0)
	for _, ref := range wrongRefs() {
		for _, root := range roots {
			if got := slotAnswer(k, root, ref); got != depth {
				t.Errorf("LookSlot %x from %v: %v", ref, root, got)
			}
		}
		for _, thread := range []int{160, 192, 224} {
			if got := fromAnswer(k, thread, ref); got != depth {
				t.Errorf("LookFrom %x from %d: %v", ref, thread, got)
			}
			if c, code, left := impl.LookCap(k, thread, ref); c != (impl.Cap{}) || code != impl.CodeDepth || left != 0 {
				t.Errorf("LookCap %x from %d: %v %d %d", ref, thread, c, code, left)
			}
		}
		if want := wantLookFrom(k, 160, ref); want.answer() != depth {
			t.Errorf("the test's own answer of %x is %+v", ref, want)
		}
	}
	// The greatest address that the bits hold is one.
	for bits := 1; bits <= 16; bits++ {
		for _, ref := range []uint32{uint32(bits) << 16, uint32(bits)<<16 | 1<<bits - 1} {
			if got := checkSlot(t, k, impl.Cap{}, ref); got.answer() != missingWith(bits) {
				t.Errorf("%x: %+v", ref, got)
			}
		}
	}
}

// Roots that are no nodes: all bits are left, whatever else they are.
func TestLookNoNode(t *testing.T) {
	k := kernSpaces()
	roots := []impl.Cap{
		{}, {Addr: 128, Bits: 3}, {Kind: -1, Addr: 128, Bits: 3}, {Kind: 8, Addr: 128, Bits: 3}, {Kind: math.MinInt}, {Kind: math.MaxInt, Addr: math.MinInt}, {Kind: 1<<32 + 2, Addr: 128, Bits: 3},
		regionOf(512, 5, 8), regionOf(128, 5, 0), copyOf(impl.CapThread, 160, 0), origOf(impl.CapThread, 160, 0), endOf(392, 7, 0), origOf(impl.CapEnd, 392, 0),
		copyOf(impl.CapNote, 396, 0), copyOf(impl.CapFrame, 400, 2), copyOf(impl.CapReply, 160, 0),
		{Kind: impl.CapUntyped, Addr: 128, Bits: 3}, {Kind: impl.CapThread, Addr: 128, Bits: 3}, {Kind: impl.CapEnd, Addr: 128, Bits: 3, GuardBits: 9}, {Kind: impl.CapReply, Addr: 1, Bits: -3},
	}
	seen := map[bool]int{}
	for _, root := range roots {
		seen[impl.CapOk(root)]++
		for _, ref := range append(allRefs(5), refOf("0000000000000000"), refOf("1111111111111111"), refOf("0000000000000")) {
			if got := checkSlot(t, k, root, ref); got.answer() != missingWith(int(ref>>16)) {
				t.Errorf("%v: %x: %+v", root, ref, got)
			}
		}
	}
	if seen[true] < 8 || seen[false] < 8 {
		t.Error("the roots are not as they were meant", seen)
	}
}

// wrongNodes is roots that are nodes, but not ok, or such of which there is no original.
func wrongNodes() []impl.Cap {
	node := copyOf(impl.CapNode, 128, 3)
	change := func(f func(c *impl.Cap)) impl.Cap {
		c := node
		f(&c)
		return c
	}
	roots := []impl.Cap{
		{Kind: impl.CapNode},
		change(func(c *impl.Cap) { c.Rights = 1 }),
		change(func(c *impl.Cap) { c.Rights = -1 }),
		change(func(c *impl.Cap) { c.Badge = 1 }),
		change(func(c *impl.Cap) { c.Free = 1 }),
		change(func(c *impl.Cap) { c.Guard = 1 }),
		change(func(c *impl.Cap) { c.Guard = -1 }),
		change(func(c *impl.Cap) { c.GuardBits = -1 }),
		change(func(c *impl.Cap) { c.GuardBits = 9 }),
		change(func(c *impl.Cap) { c.GuardBits, c.Guard = 9, 511 }),
		change(func(c *impl.Cap) { c.GuardBits, c.Guard = 16, 5 }),
		change(func(c *impl.Cap) { c.GuardBits, c.Guard = 2, 4 }),
		change(func(c *impl.Cap) { c.GuardBits = math.MaxInt }),
		change(func(c *impl.Cap) { c.GuardBits = math.MinInt }),
	}
	for _, bits := range append([]int{-3, -1, 0, 1, 2, 4, 5, 6, 8, 64, 67}, farInts...) {
		roots = append(roots, change(func(c *impl.Cap) { c.Bits = bits }))
	}
	// Not aligned, or beyond memory; or aligned, but no node is there, be it an object or not.
	for _, addr := range append([]int{0, 4, 64, 96, 124, 127, 129, 132, 136, 160, 192, 224, 288, 384, 416, 512, 544, 1024, 4064, 4096, 4128}, farInts...) {
		roots = append(roots, change(func(c *impl.Cap) { c.Addr = addr }))
	}
	return append(roots, copyOf(impl.CapNode, 256, 4), copyOf(impl.CapNode, 256, 3), copyOf(impl.CapNode, 384, 2), copyOf(impl.CapNode, 416, 1), copyOf(impl.CapNode, 320, 4),
		copyOf(impl.CapNode, 512, 2), copyOf(impl.CapNode, 512, 3), copyOf(impl.CapNode, 520, 1), copyOf(impl.CapNode, 136, 1), origOf(impl.CapNode, 544, 3), origOf(impl.CapNode, 128, 2))
}

func TestLookWrongNodes(t *testing.T) {
	k := kernSpaces()
	refs := append(allRefs(4), refOf("00000000"), refOf("11111111"), refOf("1111111111111111"))
	refs = append(refs, wrongRefs()...)
	seen := map[bool]int{}
	for _, root := range wrongNodes() {
		seen[impl.CapOk(root)]++
		for _, ref := range refs {
			if got := checkSlot(t, k, root, ref); got.answer() != missingWith(0) {
				t.Errorf("%v: %x: %+v", root, ref, got)
			}
		}
	}
	if seen[true] < 10 || seen[false] < 20 {
		t.Error("the roots are not as they were meant", seen)
	}
}

// A node is gone with its original, though a capability that names it was kept outside.
func TestLookNodeGone(t *testing.T) {
	k := kernSpaces()
	root := copyOf(impl.CapNode, 512, 1)
	checkSlotCases(t, k, root, []lookCase{{"0", foundAt(512)}, {"1 0 01", foundAt(420)}})
	cutSlot(&k, 516)
	cutSlot(&k, 264)
	if !checkKernOk(t, k) {
		t.Fatal("not ok")
	}
	checkSlotCases(t, k, root, []lookCase{{"0", missingWith(0)}, {"1 0 01", missingWith(0)}})
	// The region stays, and another node may be made where the first was.
	putSlot(&k, 256, 272, origOf(impl.CapNode, 512, 1))
	checkSlotCases(t, k, root, []lookCase{{"0", foundAt(512)}, {"1 0 01", missingWith(3)}})
	slotOf(&k, 256).Cap.Free = 16
	slotOf(&k, 272).Cap.Bits = 2
	if !checkKernOk(t, k) {
		t.Fatal("not ok")
	}
	checkSlotCases(t, k, root, []lookCase{{"0", missingWith(0)}, {"1", missingWith(0)}})
	checkSlotCases(t, k, copyOf(impl.CapNode, 512, 2), []lookCase{{"00", foundAt(512)}, {"11", foundAt(524)}})
}

func TestLookThreads(t *testing.T) {
	k := kernSpaces()
	refs := append(allRefs(6), wrongRefs()...)
	for _, ref := range refs {
		for _, thread := range []int{160, 192, 224} {
			checkFrom(t, k, thread, ref)
		}
	}
	for bits := 1; bits <= 16; bits++ {
		ref := uint32(bits) << 16
		if got := fromAnswer(k, 192, ref); got != missingWith(bits) {
			t.Errorf("a space that holds nothing: %x: %v", ref, got)
		}
		if c, code, left := impl.LookCap(k, 192, ref); c != (impl.Cap{}) || code != impl.CodeMissing || left != bits {
			t.Errorf("a space that holds nothing: %x: %v %d %d", ref, c, code, left)
		}
	}
	// Addresses of slots, of nodes and of words of threads, and such as go with nothing.
	others := append([]int{0, 1, 4, 64, 68, 128, 132, 140, 156, 161, 164, 168, 172, 188, 196, 228, 256, 384, 392, 400, 416, 512, 1023, 1024, 4095, 4096, -160, 160 + math.MinInt}, farInts...)
	for _, thread := range others {
		for _, ref := range refs {
			if got := checkFrom(t, k, thread, ref); got.answer() != missingWith(0) {
				t.Errorf("%d: %x: %+v", thread, ref, got)
			}
		}
	}
}

func TestLookCap(t *testing.T) {
	k := kernSpaces()
	cases := []struct {
		thread int
		bits   string
		text   string
		code   int
		left   int
	}{
		{160, "000", "node 128 3 0 0", 0, 0},
		{160, "001", "node 256 5 5 3", 0, 0},
		{160, "011", "thread 160", 0, 0},
		{160, "100", "end 392 rw 9", 0, 0},
		{160, "101", "note 396 rw 0", 0, 0},
		{160, "110", "frame 400 2 rw", 0, 0},
		{160, "111", "", impl.CodeMissing, 0},
		{160, "000 111", "", impl.CodeMissing, 0},
		{160, "111 1", "", impl.CodeMissing, 1},
		{160, "011 0000", "", impl.CodeMissing, 4},
		{160, "11", "", impl.CodeDepth, 2},
		{160, "001 101 00000", "untyped* 512 5 8", 0, 0},
		{160, "001 101 00010", "node* 512 1 0 0", 0, 0},
		{160, "001 101 00100", "", impl.CodeMissing, 0},
		{160, "001 101 00010 0", "", impl.CodeMissing, 0},
		{160, "001 101 00010 1", "node 416 2 0 1", 0, 0},
		{160, "001 100 00000", "", impl.CodeGuard, 8},
		{160, "001 101 0000", "", impl.CodeDepth, 7},
		{192, "000", "", impl.CodeMissing, 3},
		{224, "10100101 100", "end 392 rw 9", 0, 0},
		{224, "10100101 111", "", impl.CodeMissing, 0},
		{224, "100", "", impl.CodeGuard, 3},
		{164, "000", "", impl.CodeMissing, 0},
	}
	for _, c := range cases {
		got, code, left := impl.LookCap(k, c.thread, refOf(c.bits))
		if impl.CapText(got) != c.text || code != c.code || left != c.left || c.text == "" && got != (impl.Cap{}) {
			t.Errorf("%d: %s: %v %d %d, want %q %d %d", c.thread, c.bits, got, code, left, c.text, c.code, c.left)
		}
	}
}

// The slots of a thread, and the kernel's own, are in no node: no reference names them.
func TestLookNamesSlotsOfNodes(t *testing.T) {
	named := map[int]bool{}
	for _, k := range []impl.Kern{kernSpaces(), kernFull()} {
		clear(named)
		for _, ref := range allRefs(9) {
			if got := checkFrom(t, k, 160, ref); got.code == 0 {
				named[got.at] = true
			}
		}
		for _, s := range k.Slots {
			inThread := slices.ContainsFunc(threadsOf(k), func(at int) bool { return s.At >= at && s.At < at+32 })
			if (s.At < 128 || inThread) && named[s.At] {
				t.Error("named", s.At)
			}
		}
		if len(named) < 10 {
			t.Error("too few are named", named)
		}
	}
}

// lookCount is how often walks ended in each step, in the first round and in later ones, with each code.
type lookCount map[[3]int]int

func (n lookCount) add(w lookWant) { n[[3]int{w.step, min(w.round, 2), w.code}]++ }

func (n lookCount) check(t *testing.T, least int) {
	t.Helper()
	for _, key := range [][3]int{{1, 2, 1}, {2, 1, 2}, {2, 2, 2}, {3, 1, 3}, {3, 2, 3}, {4, 1, 0}, {4, 1, 1}, {4, 2, 0}, {4, 2, 1}} {
		if n[key] < least {
			t.Error("too few walks ended so (step, round, code):", key, n[key])
		}
	}
}

func TestLookAny(t *testing.T) {
	r := rand.New(rand.NewSource(72))
	counts := lookCount{}
	for i := range 400 {
		k := anyKern(r, 10+r.Intn(60))
		if i%8 == 0 {
			k, _ = impl.BootMake(okPlan(r))
		}
		for _, root := range nodesOf(k) {
			for range 4 {
				counts.add(checkSlot(t, k, root, refOf(walkBits(r, k, root))))
			}
			other := root
			other.GuardBits = r.Intn(9)
			other.Guard, other.Orig = r.Intn(1<<other.GuardBits), r.Intn(2) == 0
			counts.add(checkSlot(t, k, other, refOf(walkBits(r, k, other))))
			counts.add(checkSlot(t, k, root, uint32(1+r.Intn(16))<<16|uint32(r.Intn(65536))>>r.Intn(16)))
			checkSlot(t, k, root, r.Uint32())
		}
		for _, thread := range threadsOf(k) {
			space, _ := heldAt(k, thread)
			for range 4 {
				counts.add(checkFrom(t, k, thread, refOf(walkBits(r, k, space))))
			}
			checkFrom(t, k, thread, r.Uint32())
			checkFrom(t, k, thread+[]int{-4, 1, 4, 32}[r.Intn(4)], refOf(walkBits(r, k, space)))
		}
	}
	counts.check(t, 50)
}

// Each reference of a few bits in states of all sorts.
func TestLookAllShort(t *testing.T) {
	r := rand.New(rand.NewSource(73))
	states := []impl.Kern{kernSpaces(), kernFull(), kernNested(6)}
	for range 20 {
		states = append(states, anyKern(r, 40))
	}
	counts := lookCount{}
	for _, k := range states {
		for _, root := range nodesOf(k) {
			for _, ref := range allRefs(6) {
				counts.add(checkSlot(t, k, root, ref))
			}
		}
	}
	for _, ref := range allRefs(12) {
		counts.add(checkFrom(t, states[0], 160, ref))
	}
	counts.check(t, 30)
}

// Changes of a state: what is not ok has the one answer; what is ok is looked up in as it is then.
func TestLookEachChange(t *testing.T) {
	k := kernSpaces()
	roots := []impl.Cap{copyOf(impl.CapNode, 128, 3), guarded(256, 5, "101"), {}, endOf(392, 3, 9), copyOf(impl.CapNode, 128, 2)}
	threads := []int{160, 192, 224, 0}
	refs := []uint32{refOf("000"), refOf("001 101 00010 1 0 10"), refOf("010 0000 1 11"), refOf("11"), 0, 17 << 16, math.MaxUint32}
	oks, others := 0, 0
	eachChange(k, []int{0, 1, 2, 3, 128, 256, 384, 416, 512, math.MaxInt}, func(path string, c impl.Kern) {
		if !impl.KernOk(c) {
			others++
			refusedLook(t, path, c, roots[:1+others%len(roots)], threads[:1+others%len(threads)], refs[others%3:3+others%5])
			return
		}
		oks++
		for _, ref := range refs {
			for _, root := range roots {
				checkSlot(t, c, root, ref)
			}
			for _, thread := range threads {
				checkFrom(t, c, thread, ref)
			}
		}
	})
	if oks < 300 || others < 3000 {
		t.Error("the changes are not as they were meant", oks, others)
	}
}

func TestLookNotOk(t *testing.T) {
	r := rand.New(rand.NewSource(74))
	roots := append(wrongNodes()[:3], impl.Cap{}, copyOf(impl.CapNode, 128, 3), origOf(impl.CapNode, 128, 1), copyOf(impl.CapThread, 160, 0))
	threads := []int{0, 64, 128, 160, 192, 224, 256, -1, math.MinInt, math.MaxInt}
	refs := append(wrongRefs()[:12], refOf("0"), refOf("000"), refOf("111"), refOf("0000000000000000"))
	refusedLook(t, "the zero state", impl.Kern{}, roots, threads, refs)
	for i := range 300 {
		k := wildKern(r)
		if i%3 == 0 {
			k = turned(r, kernFull(), 2)
		}
		if !impl.KernOk(k) {
			refusedLook(t, fmt.Sprintf("%+v", k), k, roots, threads, refs)
		}
	}
	// A state may fail in what the walk does not come by.
	late := []func(k *impl.Kern){
		func(k *impl.Kern) { k.Ticks = -1 },
		func(k *impl.Kern) { k.Bits = 13 },
		func(k *impl.Kern) { k.Frames[0].Data = nil },
		func(k *impl.Kern) { k.Notes[0].Word = 1 },
		func(k *impl.Kern) { k.Ends[0].Kind = 1 },
		func(k *impl.Kern) { k.Ready[5] = []int{160} },
		func(k *impl.Kern) { k.Threads[2].Slice = 0 },
		func(k *impl.Kern) { k.Threads = k.Threads[:2] },
		func(k *impl.Kern) { slotOf(k, 96).Cap.Rights = 8 },
		func(k *impl.Kern) { slotOf(k, 256).Cap.Free = 7 },
		func(k *impl.Kern) { putSlot(k, 0, 2000, origOf(impl.CapNode, 768, 1)) },
		func(k *impl.Kern) { putSlot(k, 0, 104, copyOf(impl.CapNode, 128, 3)) },
	}
	for i, change := range late {
		k := kernSpaces()
		change(&k)
		if impl.KernOk(k) {
			t.Error("ok", i)
		}
		refusedLook(t, fmt.Sprint("change ", i), k, roots, threads, refs)
	}
}

// What is asked for comes ahead of how it is asked: with no state, thread or node, a reference that is none changes nothing.
func TestLookOrder(t *testing.T) {
	k := kernSpaces()
	node := copyOf(impl.CapNode, 128, 3)
	broken := kernSpaces()
	broken.Ticks = -1
	for _, ref := range []uint32{0, 17 << 16, 3<<16 | 8, math.MaxUint32} {
		if got := slotAnswer(broken, node, ref); got != missingWith(0) {
			t.Error("a state that is not ok", got)
		}
		if got := slotAnswer(k, copyOf(impl.CapNode, 128, 2), ref); got != missingWith(0) {
			t.Error("no original", got)
		}
		if got := slotAnswer(k, impl.Cap{Kind: impl.CapNode, Addr: 128, Bits: 3, Guard: 1}, ref); got != missingWith(0) {
			t.Error("a node that is not ok", got)
		}
		if got := fromAnswer(k, 0, ref); got != missingWith(0) {
			t.Error("no thread", got)
		}
		if got := slotAnswer(k, impl.Cap{}, ref); got != depthWith(0) {
			t.Error("no node", got)
		}
		if got := fromAnswer(k, 192, ref); got != depthWith(0) {
			t.Error("a space that holds nothing", got)
		}
	}
}

// LookFrom is LookSlot from the space, and LookCap is what is there, in whatever state.
func TestLookAgrees(t *testing.T) {
	r := rand.New(rand.NewSource(75))
	for range 100 {
		k := anyKern(r, 50)
		for _, thread := range threadsOf(k) {
			space, _ := impl.KernCap(k, thread)
			for range 10 {
				ref := refOf(walkBits(r, k, space))
				from := fromAnswer(k, thread, ref)
				if slot := slotAnswer(k, space, ref); slot != from {
					t.Fatalf("%x: %v, %v\n%+v", ref, slot, from, k)
				}
				c, code, left := impl.LookCap(k, thread, ref)
				held, ok := impl.KernCap(k, from.at)
				switch {
				case from.code != 0 && (c != impl.Cap{} || code != from.code || left != from.left),
					from.code == 0 && ok && (c != held || code != 0 || left != 0),
					from.code == 0 && !ok && (c != impl.Cap{} || code != impl.CodeMissing || left != 0):
					t.Fatalf("%x: %v %d %d of %v\n%+v", ref, c, code, left, from, k)
				}
			}
		}
	}
}

func TestLookArgumentsStay(t *testing.T) {
	r := rand.New(rand.NewSource(76))
	states := []impl.Kern{kernSpaces(), kernFull(), kernNested(17), kernOneNode(3), {Bits: 9}, {}}
	for range 30 {
		k := anyKern(r, 40)
		states = append(states, k, turned(r, k, 2), wildKern(r))
	}
	for _, k := range states {
		a := sparedKern(k)
		whole := wholeKern(a)
		roots := append(nodesOf(k), impl.Cap{}, impl.Cap{Kind: impl.CapNode, Addr: -7})
		for _, root := range roots {
			for range 3 {
				ref := []uint32{r.Uint32(), uint32(1+r.Intn(16)) << 16}[r.Intn(2)]
				if impl.CapOk(root) {
					ref = refOf(walkBits(r, k, root))
				}
				if slotAnswer(a, root, ref) != slotAnswer(k, root, ref) {
					t.Fatalf("what stands behind the end of a list counts\n%+v", k)
				}
			}
		}
		for _, thread := range append(threadsOf(k), -7, 0) {
			ref := uint32(1+r.Intn(16)) << 16
			impl.LookCap(a, thread, ref)
			if fromAnswer(a, thread, ref) != fromAnswer(k, thread, ref) {
				t.Fatalf("what stands behind the end of a list counts\n%+v", k)
			}
		}
		if !reflect.DeepEqual(wholeKern(a), whole) {
			t.Fatalf("an argument was written into\n%+v", k)
		}
	}
}

// A slot behind the end of the list holds nothing.
func TestLookBehindTheEnd(t *testing.T) {
	k := kernOneNode(1)
	root := copyOf(impl.CapNode, 256, 1)
	checkSlotCases(t, k, root, []lookCase{{"0 0", foundAt(256)}, {"1 1 0", foundAt(256)}})
	k.Slots = k.Slots[:2]
	checkSlotCases(t, k, root, []lookCase{{"0 0", foundAt(256)}, {"1 1 0", missingWith(2)}, {"1", foundAt(260)}})
	k.Slots = k.Slots[:1]
	checkSlotCases(t, k, root, []lookCase{{"0 0", missingWith(1)}, {"0", foundAt(256)}})
	k.Slots = k.Slots[:0]
	checkSlotCases(t, k, root, []lookCase{{"0", missingWith(0)}})
}

// One question has one answer, however often it is asked, and whatever was asked in between.
func TestLookKeepsNothing(t *testing.T) {
	k, other := kernSpaces(), kernNested(17)
	ref := refOf("001 101 00011 10 100")
	for range 3 {
		if got := fromAnswer(k, 160, ref); got != foundAt(144) {
			t.Error(got)
		}
		slotAnswer(other, copyOf(impl.CapNode, 128, 1), ref)
		fromAnswer(impl.Kern{}, 160, ref)
		impl.LookCap(k, 192, 0)
	}
}
