package tests

import (
	"fmt"
	"math"
	"math/rand"
	"reflect"
	"slices"
	"sync"
	"testing"

	"loop.example/donjon/impl"
)

// checkPromise17 asks the promise by itself of what a copy or a mint left of a state.
func checkPromise17(t *testing.T, k impl.Kern, c handCall, got impl.Kern) {
	t.Helper()
	of, _ := impl.KernCap(k, c.from)
	want, ok := impl.CapCopy(of, c.rights)
	if c.op == handMints {
		want, ok = impl.CapMint(of, c.rights, c.x)
	}
	derived, held := impl.KernCap(got, c.to)
	if !ok || !held || derived != want {
		t.Fatalf("%v: put is %v %v, derived %v %v", c, derived, held, want, ok)
	}
	if !impl.CapBelow(derived, of) || derived.Orig || derived.Rights&^of.Rights != 0 {
		t.Fatalf("%v: %v is not below %v", c, derived, of)
	}
	i := impl.TreeFind(got.Slots, c.to)
	if impl.TreeUp(got.Slots, i) != impl.TreeFind(got.Slots, c.from) || !bareOf(got.Slots, i) {
		t.Fatalf("%v: what is put did not come of its slot\n%+v", c, got)
	}
	was := kernCopy(got)
	was.Slots = slices.Delete(was.Slots, i, i+1)
	if !wantKernSame(was, k) {
		t.Fatalf("%v: something else changed\n%+v\nof\n%+v", c, got, k)
	}
}

// checkPromise18 asks the promise by itself of what a move left of a state.
func checkPromise18(t *testing.T, k impl.Kern, c handCall, got impl.Kern) {
	t.Helper()
	i := impl.TreeFind(k.Slots, c.from)
	if impl.TreeFind(got.Slots, c.from) != -1 || impl.TreeFind(got.Slots, c.to) != i || len(got.Slots) != len(k.Slots) {
		t.Fatalf("%v: the slot has not its place\n%+v\nof\n%+v", c, got, k)
	}
	for j, s := range got.Slots {
		other := k.Slots[j]
		if s.Cap != other.Cap || s.Depth != other.Depth || j != i && s.At != other.At || upOf(got.Slots, j) != upOf(k.Slots, j) {
			t.Fatalf("%v: %v was %v\n%+v", c, s, other, k)
		}
	}
	if got.Slots[i].Cap.Orig {
		t.Fatalf("%v: an original was moved\n%+v", c, k)
	}
	was := kernCopy(got)
	was.Slots[i].At = c.from
	if !wantKernSame(was, k) {
		t.Fatalf("%v: something else changed\n%+v\nof\n%+v", c, got, k)
	}
}

// checkHand holds a call against the document, at a state that is ok, and asks its promise; it answers what was left, and the code.
func checkHand(t *testing.T, k impl.Kern, c handCall) (impl.Kern, int) {
	t.Helper()
	want, wantCode := wantHand(k, c)
	got, code := c.do(k)
	if code != wantCode || !wantKernSame(got, want) {
		t.Fatalf("%v: code %d, want %d, got\n%+v\nwant\n%+v\nof\n%+v", c, code, wantCode, got, want, k)
	}
	switch {
	case code != impl.CodeOk:
		if !wantKernSame(got, k) {
			t.Fatalf("%v: refused, and not as it was\n%+v", c, got)
		}
		return got, code
	case c.op == handMoves:
		checkPromise18(t, k, c, got)
	default:
		checkPromise17(t, k, c, got)
	}
	if !impl.KernOk(got) || !wantKernOk(got) {
		t.Fatalf("%v: what is left is not ok\n%+v\nof\n%+v", c, got, k)
	}
	return got, code
}

// refusedHand asks for the one answer of a state that is not ok.
func refusedHand(t *testing.T, name string, k impl.Kern, calls []handCall) {
	t.Helper()
	for _, c := range calls {
		if got, code := c.do(k); code != impl.CodeRange || !wantKernSame(got, impl.Kern{}) {
			t.Fatalf("%s: %v: %d %+v", name, c, code, got)
		}
	}
}

// The states that the tests begin with are ok.
func TestHandStates(t *testing.T) {
	for i, k := range handStates() {
		if !checkKernOk(t, k) {
			t.Error("not ok", i)
		}
		checkPromise16(t, k)
	}
	for depth := range 13 {
		k := kernDeep(depth, 0)
		for _, at := range []int{deepPlain, deepBadged, deepFrame, deepRegion, deepOrig} {
			if slotOf(&k, at).Depth != depth || !checkKernOk(t, k) {
				t.Error("not as deep as it was meant", depth, at)
			}
		}
	}
}

// handCase is a call at a state, its code, and what it changes there.
type handCase struct {
	name   string
	call   handCall
	code   int
	change func(k *impl.Kern)
}

func checkHandCases(t *testing.T, k impl.Kern, cases []handCase) {
	t.Helper()
	for _, c := range cases {
		want := kernCopy(k)
		c.change(&want)
		if got, code := c.call.do(k); code != c.code || !wantKernSame(got, want) {
			t.Errorf("%s: code %d, got\n%+v\nwant\n%+v", c.name, code, got, want)
		}
		if own, code := wantHand(k, c.call); code != c.code || !wantKernSame(own, want) {
			t.Errorf("%s: the test's own answer is %d\n%+v", c.name, code, own)
		}
		checkHand(t, k, c.call)
	}
}

func TestHandCopyWrittenOut(t *testing.T) {
	put := func(up int, at int, c impl.Cap) func(k *impl.Kern) {
		return func(k *impl.Kern) { putSlot(k, up, at, c) }
	}
	copies := func(from int, to int, rights uint32) handCall { return handCall{handCopies, from, to, rights, 0} }
	checkHandCases(t, kernHands(), []handCase{
		{"an endpoint", copies(160, 220, 7), 0, put(160, 220, endOf(424, 7, 0))},
		{"fewer rights", copies(160, 220, 5), 0, put(160, 220, endOf(424, 5, 0))},
		{"no right", copies(160, 220, 0), 0, put(160, 220, endOf(424, 0, 0))},
		{"just the lowest three bits count", copies(160, 220, 0xfffffffa), 0, put(160, 220, endOf(424, 2, 0))},
		{"rights that it has not", copies(140, 220, 6), 0, put(140, 220, endOf(320, 2, 0))},
		{"none of those that it has", copies(516, 540, 5), 0, put(516, 540, endOf(320, 0, 0))},
		{"of a copy of a copy", copies(148, 252, 7), 0, put(148, 252, endOf(320, 1, 9))},
		{"a badge stays", copies(144, 528, 2), 0, put(144, 528, endOf(320, 2, 9))},
		{"the greatest badge", copies(216, 220, 4), 0, put(216, 220, endOf(544, 4, 65535))},
		{"a notification", copies(520, 220, 7), 0, put(520, 220, noteOf(324, 2, 0))},
		{"its original", copies(164, 220, 1), 0, put(164, 220, noteOf(428, 1, 0))},
		{"one with a badge", copies(156, 220, 3), 0, put(156, 220, noteOf(324, 3, 5))},
		{"a frame", copies(196, 528, 2), 0, put(196, 528, frameOf(328, 3, 2))},
		{"its original", copies(168, 528, 7), 0, put(168, 528, frameOf(432, 2, 3))},
		{"a thread that calls", copies(132, 220, 0), 0, put(132, 220, copyOf(impl.CapThread, 288, 0))},
		{"one that runs", copies(184, 220, 7), 0, put(184, 220, copyOf(impl.CapThread, 256, 0))},
		{"a node into itself", copies(128, 532, 0), 0, put(128, 532, copyOf(impl.CapNode, 512, 3))},
		{"a guard stays", copies(172, 220, 0), 0, put(172, 220, guarded(128, 5, "101"))},
		{"a region", copies(136, 220, 7), impl.CodeKind, asItIs},
		{"out of a slot of the kernel", copies(72, 220, 7), impl.CodeRange, asItIs},
		{"out of a thread's handler", copies(264, 220, 7), impl.CodeRange, asItIs},
		{"out of a thread's caller", copies(260, 220, 7), impl.CodeRange, asItIs},
		{"into a slot of the kernel", copies(140, 124, 7), impl.CodeRange, asItIs},
		{"into a thread's handler", copies(140, 296, 7), impl.CodeRange, asItIs},
		{"into a slot that is taken", copies(140, 144, 7), impl.CodeTaken, asItIs},
		{"into itself", copies(140, 140, 7), impl.CodeTaken, asItIs},
		{"an original into itself", copies(160, 160, 7), impl.CodeTaken, asItIs},
		{"of nothing", copies(220, 224, 7), impl.CodeEmpty, asItIs},
		{"of nothing into what is taken", copies(220, 140, 7), impl.CodeEmpty, asItIs},
		{"of nothing into itself", copies(220, 220, 7), impl.CodeEmpty, asItIs},
	})
}

func TestHandMintWrittenOut(t *testing.T) {
	put := func(up int, at int, c impl.Cap) func(k *impl.Kern) {
		return func(k *impl.Kern) { putSlot(k, up, at, c) }
	}
	mints := func(from int, to int, rights uint32, x uint32) handCall {
		return handCall{handMints, from, to, rights, x}
	}
	checkHandCases(t, kernHands(), []handCase{
		{"an endpoint", mints(160, 220, 7, 9), 0, put(160, 220, endOf(424, 7, 9))},
		{"fewer rights", mints(420, 220, 6, 1), impl.CodeOk, put(420, 220, endOf(424, 4, 1))},
		{"the greatest badge", mints(140, 528, 1, 65535), 0, put(140, 528, endOf(320, 1, 65535))},
		{"one more", mints(140, 528, 1, 65536), impl.CodeRange, asItIs},
		{"the greatest number", mints(140, 528, 1, math.MaxUint32), impl.CodeRange, asItIs},
		{"no badge", mints(140, 528, 3, 0), 0, put(140, 528, endOf(320, 3, 0))},
		{"a badge on a badge", mints(144, 220, 3, 8), impl.CodeRange, asItIs},
		{"the same badge", mints(144, 220, 3, 9), impl.CodeRange, asItIs},
		{"no badge on a badge", mints(144, 220, 3, 0), impl.CodeRange, asItIs},
		{"a notification", mints(520, 220, 7, 12), 0, put(520, 220, noteOf(324, 2, 12))},
		{"one with a badge", mints(192, 220, 7, 12), impl.CodeRange, asItIs},
		{"its original", mints(164, 220, 1, 300), 0, put(164, 220, noteOf(428, 1, 300))},
		{"a node's guard", mints(128, 220, 0, 3<<16|5), 0, put(128, 220, guarded(512, 3, "101"))},
		{"another guard", mints(172, 220, 0, 2<<16|2), 0, put(172, 220, guarded(128, 5, "10"))},
		{"no guard more", mints(208, 528, 0, 0), 0, put(208, 528, copyOf(impl.CapNode, 416, 1))},
		{"the greatest guard", mints(204, 220, 7, 8<<16|255), 0, put(204, 220, guarded(416, 1, "11111111"))},
		{"a guard with too many bits", mints(204, 220, 0, 9<<16), impl.CodeRange, asItIs},
		{"a guard that needs more bits", mints(204, 220, 0, 3<<16|8), impl.CodeRange, asItIs},
		{"a guard of no bits", mints(204, 220, 0, 1), impl.CodeRange, asItIs},
		{"a frame", mints(196, 220, 3, 0), impl.CodeKind, asItIs},
		{"a frame's original", mints(168, 220, 3, 1), impl.CodeKind, asItIs},
		{"a thread", mints(180, 220, 0, 0), impl.CodeKind, asItIs},
		{"a region", mints(136, 220, 0, 0), impl.CodeKind, asItIs},
		{"a frame, and a number that is too great", mints(196, 220, 3, math.MaxUint32), impl.CodeKind, asItIs},
		{"out of a thread's handler", mints(264, 220, 7, 1), impl.CodeRange, asItIs},
		{"out of a slot of the kernel", mints(72, 220, 7, 1), impl.CodeRange, asItIs},
		{"into itself", mints(140, 140, 7, 1), impl.CodeTaken, asItIs},
		{"of nothing", mints(536, 220, 7, 1), impl.CodeEmpty, asItIs},
	})
}

func TestHandMoveWrittenOut(t *testing.T) {
	moved := func(from int, to int) func(k *impl.Kern) {
		return func(k *impl.Kern) { slotOf(k, from).At = to }
	}
	moves := func(from int, to int) handCall { return handCall{handMoves, from, to, 0, 0} }
	checkHandCases(t, kernHands(), []handCase{
		{"an endpoint", moves(152, 220), 0, moved(152, 220)},
		{"one that others came of", moves(140, 540), 0, moved(140, 540)},
		{"one in the middle", moves(144, 224), 0, moved(144, 224)},
		{"with a badge", moves(216, 528), 0, moved(216, 528)},
		{"a notification that another one came of", moves(156, 220), 0, moved(156, 220)},
		{"a frame", moves(196, 528), 0, moved(196, 528)},
		{"a thread", moves(188, 528), 0, moved(188, 528)},
		{"a thread that another one came of", moves(180, 252), 0, moved(180, 252)},
		{"a node into itself", moves(212, 536), 0, moved(212, 536)},
		{"a node that another one came of", moves(172, 536), 0, moved(172, 536)},
		{"a node out of another one", moves(416, 220), 0, moved(416, 220)},
		{"an endpoint out of the same node", moves(420, 532), 0, moved(420, 532)},
		{"a node's original", moves(128, 220), impl.CodeOrig, asItIs},
		{"a thread's original", moves(132, 220), impl.CodeOrig, asItIs},
		{"a region", moves(136, 220), impl.CodeOrig, asItIs},
		{"an endpoint's original", moves(512, 220), impl.CodeOrig, asItIs},
		{"a notification's original", moves(164, 528), impl.CodeOrig, asItIs},
		{"a frame's original", moves(168, 528), impl.CodeOrig, asItIs},
		{"out of a thread's space", moves(256, 220), impl.CodeRange, asItIs},
		{"out of a thread's caller", moves(260, 220), impl.CodeRange, asItIs},
		{"an original out of a slot of the kernel", moves(64, 220), impl.CodeRange, asItIs},
		{"into a thread's space", moves(172, 288), impl.CodeRange, asItIs},
		{"into itself", moves(140, 140), impl.CodeTaken, asItIs},
		{"an original into itself", moves(160, 160), impl.CodeTaken, asItIs},
		{"an original into a slot that is taken", moves(160, 140), impl.CodeTaken, asItIs},
		{"nothing", moves(220, 224), impl.CodeEmpty, asItIs},
		{"nothing into itself", moves(220, 220), impl.CodeEmpty, asItIs},
	})
}

// Each kind, with each of its bits and sets of rights, as an original and as a copy, with all rights that can be asked for.
func TestHandPromise17(t *testing.T) {
	rights := []uint32{0, 1, 2, 3, 4, 5, 6, 7, 8, 1 << 31, 0xfffffff8, math.MaxUint32}
	xs := []uint32{0, 1, 65535, 65536, 1<<16 | 1, 2<<16 | 1, 2<<16 | 4, 8<<16 | 255, 8<<16 | 256, 9 << 16, math.MaxUint32}
	codes := map[[2]int]int{}
	for i, c := range sourceCaps() {
		k, from := kernSource(c)
		for j, right := range rights {
			_, code := checkHand(t, k, handCall{handCopies, from, 200, right, 0})
			codes[[2]int{handCopies, code}]++
			for n, x := range xs {
				// With a few of the rights each of the numbers, with the others one of them.
				if j%4 == i%4 || n == (i+j)%len(xs) {
					_, code = checkHand(t, k, handCall{handMints, from, 200, right, x})
					codes[[2]int{handMints, code}]++
				}
			}
		}
	}
	for _, want := range [][2]int{{handCopies, impl.CodeOk}, {handCopies, impl.CodeKind}, {handMints, impl.CodeOk}, {handMints, impl.CodeKind}, {handMints, impl.CodeRange}} {
		if codes[want] < 100 {
			t.Error("too few", want, codes)
		}
	}
}

// Each capability of a state into each free slot of each of its nodes, and back.
func TestHandPromise18(t *testing.T) {
	moves, stays := 0, 0
	for _, k := range handStates()[:10] {
		for _, from := range heldSlots(k) {
			for _, to := range freeSlots(k) {
				next, code := checkHand(t, k, handCall{handMoves, from, to, 0, 0})
				if slotOf(&k, from).Cap.Orig != (code == impl.CodeOrig) {
					t.Fatal(from, to, code)
				}
				if code != impl.CodeOk {
					stays++
					continue
				}
				moves++
				if back, code := checkHand(t, next, handCall{handMoves, to, from, 0, 0}); code != impl.CodeOk || !wantKernSame(back, k) {
					t.Fatalf("%d to %d and back: %d\n%+v\nof\n%+v", from, to, code, back, k)
				}
			}
		}
	}
	if moves < 300 || stays < 100 {
		t.Error("too few were moved, or stayed", moves, stays)
	}
}

// Runs of all three, by chance, so that copies of copies are moved, and moved ones copied.
func TestHandAny(t *testing.T) {
	r := rand.New(rand.NewSource(100))
	codes := map[[2]int]int{}
	for i := range 180 {
		k, _ := impl.BootMake(okPlan(r))
		switch i % 3 {
		case 0:
			k = kernHands()
		case 1:
			k = anyKern(r, 20+r.Intn(60))
		}
		for range 30 {
			c := anyHand(r, k)
			next, code := checkHand(t, k, c)
			codes[[2]int{c.op, code}]++
			k = next
		}
	}
	all := []int{impl.CodeOk, impl.CodeRange, impl.CodeEmpty, impl.CodeTaken}
	for op, own := range [][]int{{impl.CodeKind}, {impl.CodeKind}, {impl.CodeOrig}} {
		for _, code := range append(own, all...) {
			if codes[[2]int{op, code}] < 20 {
				t.Error("too few", op, code, codes)
			}
		}
	}
}

// handPart is one end of a call to kernDeep, with the codes of each of the three that it asks for by itself; deep is whether it can be too deep.
type handPart struct {
	name  string
	at    int
	all   []int
	codes [3][]int
	deep  bool
}

func handFroms(depth int) []handPart {
	empty, outside := []int{impl.CodeEmpty}, []int{impl.CodeRange}
	nowhere := []int{impl.CodeRange, impl.CodeEmpty}
	kind, orig := []int{impl.CodeKind}, []int{impl.CodeOrig}
	var plain, badged, frame [3][]int
	badged[handMints] = outside
	frame[handMints] = kind
	if depth == 0 {
		plain[handMoves], badged[handMoves], frame[handMoves] = orig, orig, orig
	}
	return []handPart{
		{"an endpoint", deepPlain, nil, plain, true},
		{"one with a badge", deepBadged, nil, badged, true},
		{"a frame", deepFrame, nil, frame, true},
		{"a region", deepRegion, nil, [3][]int{kind, kind, orig}, true},
		{"an original", deepOrig, nil, [3][]int{nil, nil, orig}, true},
		{"a node's original in a slot of the kernel", 64, outside, [3][]int{nil, nil, orig}, false},
		{"a thread's original in a slot of the kernel", 112, outside, [3][]int{nil, kind, orig}, false},
		{"a thread's space", deepThread, outside, [3][]int{}, false},
		{"a thread's handler, empty", deepThread + 8, nowhere, [3][]int{}, false},
		{"an empty slot", deepFree + 16, empty, [3][]int{}, false},
		{"no multiple of 4", deepPlain + 2, nowhere, [3][]int{}, false},
		{"in a region", 2048, nowhere, [3][]int{}, false},
		{"beyond memory", 4096, nowhere, [3][]int{}, false},
		{"negative", -deepPlain, nowhere, [3][]int{}, false},
	}
}

func handTos() []handPart {
	taken, outside := []int{impl.CodeTaken}, []int{impl.CodeRange}
	both := []int{impl.CodeRange, impl.CodeTaken}
	return []handPart{
		{name: "a free slot", at: deepFree}, {name: "one that is taken", at: deepPlain, all: taken}, {name: "taken by an original", at: deepOrig, all: taken},
		{name: "the kernel's, taken", at: 64, all: both}, {name: "a thread's, free", at: deepThread + 4, all: outside}, {name: "a thread's, taken", at: deepThread, all: both},
		{name: "no multiple of 4", at: deepFree + 1, all: outside}, {name: "in an endpoint", at: 1696, all: outside},
		{name: "nowhere", at: -4, all: outside}, {name: "beyond memory", at: 4096, all: outside},
	}
}

// handOrder is the codes of each of the three in the document's order, but that a range comes once again behind the kind.
var handOrder = [3][]int{
	{impl.CodeRange, impl.CodeEmpty, impl.CodeTaken, impl.CodeKind, impl.CodeDeep},
	{impl.CodeRange, impl.CodeEmpty, impl.CodeTaken, impl.CodeKind, impl.CodeRange, impl.CodeDeep},
	{impl.CodeRange, impl.CodeEmpty, impl.CodeTaken, impl.CodeOrig},
}

// firstHandCode is the first code that applies; it notes which apply at once, by their places in the order.
func firstHandCode(seen map[[3]int]bool, op int, all []int, own []int) int {
	var places []int
	for i, code := range handOrder[op] {
		if i < 3 && slices.Contains(all, code) || i >= 3 && slices.Contains(own, code) {
			places = append(places, i)
		}
	}
	if len(places) == 0 {
		return impl.CodeOk
	}
	for _, other := range places[1:] {
		seen[[3]int{op, places[0], other}] = true
	}
	return handOrder[op][places[0]]
}

// checkDeepCalls asks all calls of a state of kernDeep for their codes, and some for all that they leave.
func checkDeepCalls(t *testing.T, depth int, slots int, seen map[[3]int]bool) {
	t.Helper()
	k := kernDeep(depth, slots)
	if slots > 0 && len(k.Slots) != slots || !impl.KernOk(k) {
		t.Fatal("the state is not as it was meant", depth, slots)
	}
	for _, from := range handFroms(depth) {
		for _, to := range handTos() {
			for _, c := range []handCall{{handCopies, from.at, to.at, 7, 0}, {handMints, from.at, to.at, 7, 3}, {handMints, from.at, to.at, 7, math.MaxUint32}, {handMoves, from.at, to.at, 0, 0}} {
				own := slices.Clone(from.codes[c.op])
				if c.x == math.MaxUint32 {
					own = append(own, impl.CodeRange)
				}
				if from.deep && depth == 12 || slots == 300 {
					own = append(own, impl.CodeDeep)
				}
				want := firstHandCode(seen, c.op, append(slices.Clone(from.all), to.all...), own)
				got, code := c.do(k)
				if code != want || code != impl.CodeOk && !wantKernSame(got, k) {
					t.Fatalf("depth %d, %d slots, %s, %s, %v: code %d, want %d", depth, slots, from.name, to.name, c, code, want)
				}
				if want == impl.CodeOk || (from.at+to.at)%7 == 0 {
					checkHand(t, k, c)
				}
			}
		}
	}
}

// Each two codes that apply at once, and more: the first of the document's list is told.
func TestHandOrderOfCodes(t *testing.T) {
	seen := map[[3]int]bool{}
	for _, depth := range []int{0, 11, 12} {
		for _, slots := range []int{0, 299, 300} {
			checkDeepCalls(t, depth, slots, seen)
		}
	}
	for op, order := range handOrder {
		for i, first := range order {
			for j := i + 1; j < len(order); j++ {
				// Of a slot that holds nothing there is no kind, no derived capability and no original.
				own := order[j] == impl.CodeKind || order[j] == impl.CodeRange || order[j] == impl.CodeOrig
				if !(first == impl.CodeEmpty && own) && !seen[[3]int{op, i, j}] && op != handMints {
					t.Error("not asked", op, first, order[j])
				}
			}
		}
	}
	for _, pair := range [][2]int{{0, 1}, {0, 2}, {0, 3}, {0, 5}, {1, 2}, {1, 5}, {2, 3}, {2, 4}, {2, 5}, {3, 4}, {3, 5}, {4, 5}} {
		if !seen[[3]int{handMints, pair[0], pair[1]}] {
			t.Error("not asked", pair)
		}
	}
}

// The bounds of the tree are met exactly by copies and mints; a move does not come near them.
func TestHandDeep(t *testing.T) {
	for depth := range 13 {
		want := impl.CodeOk
		if depth == 12 {
			want = impl.CodeDeep
		}
		k := kernDeep(depth, 0)
		for _, c := range []handCall{{handCopies, deepPlain, deepFree, 7, 0}, {handCopies, deepFrame, deepFree, 7, 0}, {handCopies, deepOrig, deepFree, 7, 0}, {handMints, deepPlain, deepFree, 7, 9}, {handMints, deepOrig, deepFree, 1, 0}} {
			got, code := checkHand(t, k, c)
			if code != want || code == impl.CodeOk && slotOf(&got, deepFree).Depth != depth+1 {
				t.Error(depth, c, code)
			}
		}
		want = impl.CodeOk
		if depth == 0 {
			want = impl.CodeOrig
		}
		if got, code := checkHand(t, k, handCall{handMoves, deepPlain, deepFree, 0, 0}); code != want || code == impl.CodeOk && slotOf(&got, deepFree).Depth != depth {
			t.Error(depth, "move", code)
		}
	}
	for slots := 297; slots <= 300; slots++ {
		want := impl.CodeOk
		if slots == 300 {
			want = impl.CodeDeep
		}
		k := kernDeep(2, slots)
		for _, c := range []handCall{{handCopies, deepBadged, deepFree, 7, 0}, {handMints, deepPlain, deepFree, 7, 9}} {
			if got, code := checkHand(t, k, c); code != want || code == impl.CodeOk && len(got.Slots) != slots+1 {
				t.Error(slots, c, len(got.Slots), code)
			}
		}
		if got, code := checkHand(t, k, handCall{handMoves, deepBadged, deepFree, 0, 0}); code != impl.CodeOk || len(got.Slots) != slots {
			t.Error(slots, "move", len(got.Slots), code)
		}
	}
}

// A line of copies of copies, as long as there may be one, which stays one however its slots are moved.
func TestHandLine(t *testing.T) {
	k, at := kernSource(origOf(impl.CapEnd, 2048, 0))
	for i := range 13 {
		next, code := checkHand(t, k, handCall{handCopies, at, 140 + 4*i, 7, 0})
		if code == impl.CodeDeep && i == 12 {
			break
		}
		if code != impl.CodeOk {
			t.Fatal(i, code)
		}
		k, at = next, 140+4*i
	}
	for i := range 12 {
		k, _ = checkHand(t, k, handCall{handMoves, 140 + 4*i, 252 - 4*i, 0, 0})
	}
	for i := range 12 {
		up := sourceOrig
		if i > 0 {
			up = 252 - 4*(i-1)
		}
		if upOf(k.Slots, placeOf(k, 252-4*i)) != placeOf(k, up) {
			t.Error(i, k.Slots)
		}
	}
}

// What is derived goes into the tree just behind its slot, ahead of what came of it sooner.
func TestHandOrderOfSlots(t *testing.T) {
	k, _ := checkHand(t, kernHands(), handCall{handCopies, 140, 220, 7, 0})
	k, _ = checkHand(t, k, handCall{handMints, 140, 224, 7, 3})
	k, _ = checkHand(t, k, handCall{handMoves, 144, 228, 0, 0})
	k, _ = checkHand(t, k, handCall{handCopies, 228, 144, 7, 0})
	var ats []int
	i := placeOf(k, 140)
	for _, s := range k.Slots[i:impl.TreeEnd(k.Slots, i)] {
		ats = append(ats, s.At)
	}
	if !slices.Equal(ats, []int{140, 224, 220, 228, 144, 148, 516}) {
		t.Error(ats)
	}
}

// Each address in and around memory, as each of the two slots, and as both.
func TestHandEachAddress(t *testing.T) {
	k := kernHands()
	for at := -9; at <= 4105; at++ {
		for op := range 3 {
			for _, c := range []handCall{{op, at, 220, 7, 0}, {op, 140, at, 7, 0}, {op, at, at, 7, 0}} {
				// Behind its memory the state has nothing: an address of each residue is enough.
				if at > 2060 && (at+op)%7 > 0 && at < 4090 {
					continue
				}
				if _, code := c.do(k); code != wantHandCode(k, c) {
					t.Fatalf("%v: %d, want %d", c, code, wantHandCode(k, c))
				}
			}
		}
		if at%4 == 0 && at < 560 {
			checkHand(t, k, handCall{handMints, 140, at, 1, 5})
			checkHand(t, k, handCall{handMoves, at, 252, 0, 0})
			checkHand(t, k, handCall{handCopies, at, 528, 3, 0})
		}
	}
	for _, at := range farInts {
		for _, near := range []int{at, at + 140, at + 220} {
			for op := range 3 {
				checkHand(t, k, handCall{op, near, 220, 7, 0})
				checkHand(t, k, handCall{op, 140, near, 7, 0})
				checkHand(t, k, handCall{op, near, at, 7, 0})
			}
		}
	}
}

// Numbers of any bits.
func TestHandEachNumber(t *testing.T) {
	k := kernHands()
	numbers := []uint32{0, 1, 7, 8, 0xffff, 0x10000, 0x10001, 0x80000, 0x800ff, 0x80100, 0x90000, 1 << 31, 1<<31 | 7, math.MaxUint32 - 1, math.MaxUint32}
	for bit := range 32 {
		numbers = append(numbers, 1<<bit)
	}
	for _, from := range []int{140, 144, 164, 172, 196, 204, 136, 188} {
		for i, n := range numbers {
			checkHand(t, k, handCall{handCopies, from, 220, n, 0})
			checkHand(t, k, handCall{handMints, from, 220, 3, n})
			checkHand(t, k, handCall{handMints, from, 220, n, numbers[(i+9)%len(numbers)]})
		}
	}
}

// handAsked is calls of kernHands of which each has another answer.
func handAsked() []handCall {
	var calls []handCall
	for op := range 3 {
		calls = append(calls,
			handCall{op, 140, 220, 7, 3}, handCall{op, 152, 528, 1, 0}, handCall{op, 172, 536, 0, 1<<16 | 1}, handCall{op, 156, 252, 3, 0},
			handCall{op, 160, 220, 7, 65536}, handCall{op, 136, 220, 0, 0}, handCall{op, 196, 532, 1, 0}, handCall{op, 72, 220, 7, 0}, handCall{op, 140, 124, 7, 0},
			handCall{op, 220, 224, 7, 0}, handCall{op, 140, 140, 7, 0}, handCall{op, 256, 220, 7, 0},
			handCall{op, 0, 0, 0, 0}, handCall{op, math.MinInt, math.MaxInt, math.MaxUint32, math.MaxUint32}, handCall{op, math.MaxInt, math.MinInt, math.MaxUint32, 1 << 31})
	}
	return calls
}

func TestHandNotOk(t *testing.T) {
	r := rand.New(rand.NewSource(105))
	calls := handAsked()
	refusedHand(t, "the zero state", impl.Kern{}, calls)
	for i := range 300 {
		k := wildKern(r)
		if i%3 == 0 {
			k = turned(r, kernHands(), 2)
		}
		if !wantKernOk(k) {
			refusedHand(t, fmt.Sprintf("%+v", k), k, append(calls, anyHand(r, k)))
		}
	}
	// A state may fail in what handing on does not come by, and in what it would mend.
	changes := []func(k *impl.Kern){
		func(k *impl.Kern) { k.Ticks = -1 },
		func(k *impl.Kern) { k.Ticks = impl.KernMaxTicks + 1 },
		func(k *impl.Kern) { k.Bits = 8 },
		func(k *impl.Kern) { k.Bits = 9 },
		func(k *impl.Kern) { k.Bits = 13 },
		func(k *impl.Kern) { k.Ready[3] = nil },
		func(k *impl.Kern) { k.Ready[3] = []int{256, 256} },
		func(k *impl.Kern) { threadOf(k, 256).Slice = 0 },
		func(k *impl.Kern) { threadOf(k, 288).State = impl.KernIdle },
		func(k *impl.Kern) { k.Frames[0].Data = k.Frames[0].Data[:7] },
		func(k *impl.Kern) { slices.Reverse(k.Ends) },
		func(k *impl.Kern) { k.Ends[0].Kind = 2 },
		func(k *impl.Kern) { k.Notes[0].Word = 1 },
		func(k *impl.Kern) { slotOf(k, 140).Cap.Orig = true },
		func(k *impl.Kern) { slotOf(k, 140).Cap.Badge = 65536 },
		func(k *impl.Kern) { slotOf(k, 140).At = 142 },
		func(k *impl.Kern) { slotOf(k, 140).At = 700 },
		func(k *impl.Kern) { slotOf(k, 140).At = 144 },
		func(k *impl.Kern) { slotOf(k, 144).Cap.Rights = 7 },
		func(k *impl.Kern) { slotOf(k, 148).Cap.Badge = 0 },
		func(k *impl.Kern) { slotOf(k, 152).Depth = 4 },
		func(k *impl.Kern) { slotOf(k, 128).At = 528 },
		func(k *impl.Kern) { slotOf(k, 260).At = 220 },
		func(k *impl.Kern) { putSlot(k, 264, 220, endOf(320, 6, 77)) },
	}
	for i, change := range changes {
		k := kernHands()
		change(&k)
		if wantKernOk(k) {
			t.Error("ok", i)
		}
		refusedHand(t, fmt.Sprint("change ", i), k, calls)
	}
}

// Changes of a state: of what is not ok there is nothing; of what is ok is handed on as it is then.
func TestHandEachChange(t *testing.T) {
	calls := handAsked()
	oks, others := 0, 0
	eachChange(kernHands(), []int{0, 1, 2, 3, 5, 7, 8, 9, 64, 128, 140, 220, 256, 320, 416, 4096, math.MaxInt}, func(path string, k impl.Kern) {
		if !wantKernOk(k) {
			others++
			refusedHand(t, path, k, []handCall{calls[others%len(calls)]})
			return
		}
		oks++
		for i := range 3 {
			checkHand(t, k, calls[(oks+16*i)%len(calls)])
		}
	})
	if oks < 300 || others < 4000 {
		t.Error("the changes are not as they were meant", oks, others)
	}
}

// handRuns asks calls of states that are written out and made by chance.
func handRuns(seed int64, states []impl.Kern, tell func(k impl.Kern, c handCall)) {
	r := rand.New(rand.NewSource(seed))
	for range 20 {
		states = append(states, anyKern(r, 60))
	}
	for _, k := range states {
		calls := handAsked()
		for range 20 {
			calls = append(calls, anyHand(r, k))
		}
		for _, c := range calls {
			tell(k, c)
		}
	}
}

// Nothing is written into an argument, or behind the ends of its lists, and what stands there counts for nothing.
func TestHandArgumentsStay(t *testing.T) {
	r := rand.New(rand.NewSource(106))
	states := append(handStates(), impl.Kern{})
	for range 10 {
		states = append(states, turned(r, kernHands(), 2), wildKern(r))
	}
	handRuns(107, states, func(k impl.Kern, c handCall) {
		a := sparedKern(k)
		whole := wholeKern(a)
		got, code := c.do(a)
		want, wantCode := c.do(k)
		if code != wantCode || !wantKernSame(got, want) {
			t.Fatalf("%v: what stands behind the end of a list counts\n%+v", c, k)
		}
		if !reflect.DeepEqual(wholeKern(a), whole) {
			t.Fatalf("%v: an argument was written into\n%+v", c, k)
		}
	})
}

// Answers are new memory, with their spare room, also where nothing is handed on: they share none with the argument, and no two of their lists share any.
func TestHandAnswersStay(t *testing.T) {
	handRuns(108, handStates(), func(k impl.Kern, c handCall) {
		a := sparedKern(k)
		got, _ := c.do(a)
		spans := append(memoryOf(reflect.ValueOf(&got).Elem()), memoryOf(reflect.ValueOf(&a).Elem())...)
		slices.SortFunc(spans, func(a [2]uintptr, b [2]uintptr) int { return slices.Compare(a[:], b[:]) })
		for i := 1; i < len(spans); i++ {
			if spans[i][0] < spans[i-1][1] {
				t.Fatalf("%v: lists share memory\n%+v", c, k)
			}
		}
	})
}

// An answer stays what it was, whatever is written into the argument, and the other way around.
func TestHandAnswersAreOwn(t *testing.T) {
	for _, c := range handAsked() {
		k := kernHands()
		want, _ := wantHand(k, c)
		got, _ := c.do(k)
		eachLeaf(reflect.ValueOf(&k).Elem(), "", func(path string, leaf reflect.Value) { leaf.SetZero() })
		if !wantKernSame(got, want) {
			t.Fatalf("%v: an answer changed with its argument\n%+v", c, got)
		}
		k = kernHands()
		got, _ = c.do(k)
		eachLeaf(reflect.ValueOf(&got).Elem(), "", func(path string, leaf reflect.Value) { leaf.SetZero() })
		if !wantKernSame(k, kernHands()) {
			t.Fatalf("%v: an argument changed with its answer\n%+v", c, k)
		}
	}
}

// One question has one answer, however often it is asked, by however many at once, and whatever was asked in between.
func TestHandKeepsNothing(t *testing.T) {
	r := rand.New(rand.NewSource(109))
	states := []impl.Kern{kernHands(), anyKern(r, 60), kernDeep(12, 300), {}}
	var askers sync.WaitGroup
	for asker := range 8 {
		askers.Go(func() {
			for i := range 30 {
				k := states[(asker+i)%len(states)]
				for _, c := range handAsked() {
					want, wantCode := impl.Kern{}, impl.CodeRange
					if len(k.Slots) > 0 {
						want, wantCode = wantHand(k, c)
					}
					if got, code := c.do(k); code != wantCode || !wantKernSame(got, want) {
						t.Errorf("%v: %d\n%+v", c, code, k)
						return
					}
				}
			}
		})
	}
	askers.Wait()
}

// Lists that are empty are as good as such that are not there.
func TestHandEmptyLists(t *testing.T) {
	k := kernOneNode(2)
	k.Slots = slices.DeleteFunc(k.Slots, func(s impl.TreeSlot) bool { return s.At > 260 })
	full := kernCopy(k)
	k.Threads, k.Ends, k.Notes, k.Frames = []impl.KernThread{}, make([]impl.KernEnd, 0, 3), []impl.KernNote{}, make([]impl.KernFrame, 0, 1)
	for prio := range k.Ready {
		k.Ready[prio] = make([]int, 0, 2)
	}
	for op := range 3 {
		for _, c := range []handCall{{op, 256, 264, 0, 0}, {op, 260, 268, 0, 1 << 16}, {op, 264, 268, 0, 0}} {
			got, _ := checkHand(t, k, c)
			if other, _ := c.do(full); !wantKernSame(got, other) {
				t.Error(c)
			}
		}
	}
}

// What is moved gives the same: the thread names it by its new slot, and its way through a node that was moved goes on from there.
func TestHandMovedGivesTheSame(t *testing.T) {
	k := kernHands()
	way := func(slots ...int) uint32 {
		ref := uint32(0)
		for _, slot := range slots {
			ref = ref<<5 | uint32(slot)
		}
		return impl.LookRef(5*len(slots), int(ref))
	}
	was, code, _ := impl.LookCap(k, 256, way(3))
	if code != impl.CodeOk || was != endOf(320, 3, 0) {
		t.Fatal(was, code)
	}
	k, _ = checkHand(t, k, handCall{handMoves, 140, 240, 0, 0})
	if c, code, left := impl.LookCap(k, 256, way(28)); code != impl.CodeOk || left != 0 || c != was {
		t.Error(c, code, left)
	}
	if _, code, _ := impl.LookCap(k, 256, way(3)); code != impl.CodeMissing {
		t.Error(code)
	}
	k, _ = checkHand(t, k, handCall{handMoves, 176, 244, 0, 0})
	if c, code, left := impl.LookCap(k, 256, way(29, 28)); code != impl.CodeOk || left != 0 || c != was {
		t.Error(c, code, left)
	}
	if _, code, left := impl.LookCap(k, 256, way(12, 28)); code != impl.CodeMissing || left != 5 {
		t.Error(code, left)
	}
}

// On words: what is left is a state whose words read back, and out of which things are made.
func TestHandOnWords(t *testing.T) {
	r := rand.New(rand.NewSource(110))
	for range 40 {
		k := anyKern(r, 60)
		for range 6 {
			got, _ := checkHand(t, k, anyHand(r, k))
			if back, ok := impl.LayRead(impl.LayMake(got)); !ok || !wantKernSame(back, got) {
				t.Fatalf("not read back\n%+v", got)
			}
			k, _ = checkMake(t, got, anyMake(r, got))
		}
	}
}
