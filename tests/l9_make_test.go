package tests

import (
	"fmt"
	"math"
	"math/rand"
	"reflect"
	"slices"
	"sync"
	"testing"

	"loop.example/donjon/impl"
)

// meets says whether the objects of two originals have a word in common.
func meets(a impl.Cap, b impl.Cap) bool {
	return a.Addr < b.Addr+wordsOf(b) && b.Addr < a.Addr+wordsOf(a)
}

// checkEmpty asks whether an object starts out with nothing in it.
func checkEmpty(t *testing.T, k impl.Kern, c impl.Cap) {
	t.Helper()
	ok := false
	switch c.Kind {
	case impl.CapUntyped:
		ok = c.Free == 0
	case impl.CapNode:
		ok = len(innerOf(k.Slots, c)) == 0
	case impl.CapThread:
		ok = slices.Contains(k.Threads, impl.KernThread{At: c.Addr, State: impl.KernIdle, Slice: impl.KernMaxSlice}) && len(innerOf(k.Slots, c)) == 0
	case impl.CapEnd:
		ok = slices.ContainsFunc(k.Ends, func(e impl.KernEnd) bool { return e.At == c.Addr && e.Kind == 0 && len(e.List) == 0 })
	case impl.CapNote:
		ok = slices.ContainsFunc(k.Notes, func(n impl.KernNote) bool {
			return n.At == c.Addr && !n.Active && n.Word == 0 && len(n.List) == 0
		})
	case impl.CapFrame:
		ok = slices.ContainsFunc(k.Frames, func(f impl.KernFrame) bool {
			return f.At == c.Addr && slices.Equal(f.Data, make([]uint32, impl.CapSize(c.Kind, c.Bits)))
		})
	}
	if !ok {
		t.Fatalf("%v does not start out empty\n%+v", c, k)
	}
}

// withoutMade is a state without the object whose original is in a slot.
func withoutMade(k impl.Kern, to int) impl.Kern {
	c := kernCopy(k)
	dropOf(&c, to)
	return c
}

// checkPromise14 asks the promise by itself of what a call left of a state.
func checkPromise14(t *testing.T, k impl.Kern, c makeCall, got impl.Kern) {
	t.Helper()
	i, from := placeOf(got, c.to), placeOf(got, c.from)
	if i < 0 || from < 0 || upOf(got.Slots, i) != from || !bareOf(got.Slots, i) {
		t.Fatalf("%+v: what is made did not come of its region\n%+v", c, got)
	}
	object, region := got.Slots[i].Cap, got.Slots[from].Cap
	rest := impl.Cap{Kind: c.kind, Addr: object.Addr, Bits: c.bits, Rights: impl.CapMax(c.kind), Orig: true}
	if object != rest || wordsOf(object) == 0 || object.Addr%wordsOf(object) != 0 {
		t.Fatalf("%+v: made is %v", c, object)
	}
	if object.Addr < region.Addr || object.Addr+wordsOf(object) > region.Addr+wordsOf(region) || region.Free != object.Addr+wordsOf(object)-region.Addr {
		t.Fatalf("%+v: %v is laid in %v", c, object, region)
	}
	above := map[int]bool{i: true}
	for up := from; up >= 0; up = upOf(got.Slots, up) {
		above[up] = true
	}
	for j, s := range got.Slots {
		if !above[j] && s.Cap.Orig && meets(s.Cap, object) {
			t.Fatalf("%+v: %v meets %v\n%+v", c, object, s, got)
		}
	}
	checkEmpty(t, got, object)
	was := withoutMade(got, c.to)
	slotOf(&was, c.from).Cap.Free = slotOf(&k, c.from).Cap.Free
	if !wantKernSame(was, k) {
		t.Fatalf("%+v: something else changed\n%+v\nof\n%+v", c, got, k)
	}
}

// apart says whether no word belongs to two objects, regions aside, and no two originals meet that came of the same slot, or of nothing.
func apart(k impl.Kern) bool {
	owned := map[int]bool{}
	for i, s := range k.Slots {
		if !s.Cap.Orig {
			continue
		}
		for j, other := range k.Slots[:i] {
			if other.Cap.Orig && upOf(k.Slots, i) == upOf(k.Slots, j) && meets(s.Cap, other.Cap) {
				return false
			}
		}
		if s.Cap.Kind == impl.CapUntyped {
			continue
		}
		for at := s.Cap.Addr; at < s.Cap.Addr+wordsOf(s.Cap); at++ {
			if owned[at] {
				return false
			}
			owned[at] = true
		}
	}
	return true
}

// checkPromise16 is for a state that is ok.
func checkPromise16(t *testing.T, k impl.Kern) {
	t.Helper()
	if !apart(k) {
		t.Fatalf("two objects meet\n%+v", k)
	}
}

// checkMake holds both calls against the document, at a state that is ok, and asks promise 14; it answers what was left, and the code.
func checkMake(t *testing.T, k impl.Kern, c makeCall) (impl.Kern, int) {
	t.Helper()
	want, wantCode := wantMakeDo(k, c)
	got, code := c.do(k)
	if code != wantCode || !wantKernSame(got, want) {
		t.Fatalf("%+v: code %d, want %d, got\n%+v\nwant\n%+v\nof\n%+v", c, code, wantCode, got, want, k)
	}
	if asked := c.code(k); asked != code {
		t.Fatalf("%+v: MakeCode %d, MakeDo %d", c, asked, code)
	}
	if code != impl.CodeOk {
		if !wantKernSame(got, k) {
			t.Fatalf("%+v: refused, and not as it was\n%+v", c, got)
		}
		return got, code
	}
	if !impl.KernOk(got) || !wantKernOk(got) {
		t.Fatalf("%+v: what is left is not ok\n%+v\nof\n%+v", c, got, k)
	}
	checkPromise14(t, k, c, got)
	return got, code
}

// refusedMake asks for the one answer of a state that is not ok.
func refusedMake(t *testing.T, name string, k impl.Kern, calls []makeCall) {
	t.Helper()
	for _, c := range calls {
		if got, code := c.do(k); code != impl.CodeRange || !wantKernSame(got, impl.Kern{}) {
			t.Fatalf("%s: %+v: %d %+v", name, c, code, got)
		}
		if code := c.code(k); code != impl.CodeRange {
			t.Fatalf("%s: %+v: %d", name, c, code)
		}
	}
}

// The states that the tests begin with are ok.
func TestMakeStates(t *testing.T) {
	for i, k := range makeStates() {
		if !checkKernOk(t, k) {
			t.Error("not ok", i)
		}
		checkPromise16(t, k)
	}
}

// The sizes of the test's own words are those of chapter 2.
func TestMakeSizes(t *testing.T) {
	for kind := -2; kind < 11; kind++ {
		for bits := -2; bits < 20; bits++ {
			if got, want := impl.CapSize(kind, bits), sizeOfNew(kind, bits); got != want {
				t.Error(kind, bits, got, want)
			}
		}
	}
	if len(allShapes()) != 10+5+1+1+1+7 {
		t.Error(allShapes())
	}
}

// makeCase is a call at a state, its code, and what it changes there.
type makeCase struct {
	name   string
	call   makeCall
	code   int
	change func(k *impl.Kern)
}

func checkMakeCases(t *testing.T, k impl.Kern, cases []makeCase) {
	t.Helper()
	for _, c := range cases {
		want := kernCopy(k)
		c.change(&want)
		if got, code := c.call.do(k); code != c.code || !wantKernSame(got, want) {
			t.Errorf("%s: code %d, got\n%+v\nwant\n%+v", c.name, code, got, want)
		}
		if own, code := wantMakeDo(k, c.call); code != c.code || !wantKernSame(own, want) {
			t.Errorf("%s: the test's own answer is %d\n%+v", c.name, code, own)
		}
		checkMake(t, k, c.call)
	}
}

// kernYard: an object of each kind out of each sort of region.
func TestMakeWrittenOut(t *testing.T) {
	k := kernYard()
	checkMakeCases(t, k, []makeCase{
		{"a thread", makeCall{132, impl.CapThread, 0, 172}, 0, func(k *impl.Kern) {
			slotOf(k, 132).Cap.Free = 32
			putSlot(k, 132, 172, impl.Cap{Kind: impl.CapThread, Addr: 512, Orig: true})
			k.Threads = slices.Insert(k.Threads, 1, impl.KernThread{At: 512, Slice: 4})
		}},
		{"an endpoint", makeCall{136, impl.CapEnd, 0, 1536}, 0, func(k *impl.Kern) {
			slotOf(k, 136).Cap.Free = 4
			putSlot(k, 136, 1536, impl.Cap{Kind: impl.CapEnd, Addr: 1024, Rights: 7, Orig: true})
			k.Ends = slices.Insert(k.Ends, 1, impl.KernEnd{At: 1024})
		}},
		{"a notification", makeCall{140, impl.CapNote, 0, 252}, 0, func(k *impl.Kern) {
			slotOf(k, 140).Cap.Free = 44
			putSlot(k, 140, 252, impl.Cap{Kind: impl.CapNote, Addr: 1320, Rights: 3, Orig: true})
			k.Notes = slices.Insert(k.Notes, 2, impl.KernNote{At: 1320})
		}},
		{"a frame behind an object of its region", makeCall{148, impl.CapFrame, 2, 1564}, 0, func(k *impl.Kern) {
			slotOf(k, 148).Cap.Free = 8
			putSlot(k, 148, 1564, impl.Cap{Kind: impl.CapFrame, Addr: 1300, Bits: 2, Rights: 3, Orig: true})
			k.Frames = slices.Insert(k.Frames, 1, impl.KernFrame{At: 1300, Data: make([]uint32, 4)})
		}},
		{"a frame with a gap ahead of it", makeCall{140, impl.CapFrame, 6, 176}, 0, func(k *impl.Kern) {
			slotOf(k, 140).Cap.Free = 128
			putSlot(k, 140, 176, impl.Cap{Kind: impl.CapFrame, Addr: 1344, Bits: 6, Rights: 3, Orig: true})
			k.Frames = slices.Insert(k.Frames, 2, impl.KernFrame{At: 1344, Data: make([]uint32, 64)})
		}},
		{"a frame of the last word", makeCall{104, impl.CapFrame, 0, 172}, 0, func(k *impl.Kern) {
			slotOf(k, 104).Cap.Free = 256
			putSlot(k, 104, 172, impl.Cap{Kind: impl.CapFrame, Addr: 4095, Rights: 3, Orig: true})
			k.Frames = append(k.Frames, impl.KernFrame{At: 4095, Data: []uint32{0}})
		}},
		{"a frame as large as its region", makeCall{168, impl.CapFrame, 6, 172}, 0, func(k *impl.Kern) {
			slotOf(k, 168).Cap.Free = 64
			putSlot(k, 168, 172, impl.Cap{Kind: impl.CapFrame, Addr: 3968, Bits: 6, Rights: 3, Orig: true})
			k.Frames = slices.Insert(k.Frames, 3, impl.KernFrame{At: 3968, Data: make([]uint32, 64)})
		}},
		{"a node", makeCall{140, impl.CapNode, 1, 172}, 0, func(k *impl.Kern) {
			slotOf(k, 140).Cap.Free = 48
			putSlot(k, 140, 172, impl.Cap{Kind: impl.CapNode, Addr: 1320, Bits: 1, Orig: true})
		}},
		{"the greatest node", makeCall{136, impl.CapNode, 5, 172}, 0, func(k *impl.Kern) {
			slotOf(k, 136).Cap.Free = 128
			putSlot(k, 136, 172, impl.Cap{Kind: impl.CapNode, Addr: 1024, Bits: 5, Orig: true})
		}},
		{"a region", makeCall{140, impl.CapUntyped, 7, 172}, 0, func(k *impl.Kern) {
			slotOf(k, 140).Cap.Free = 256
			putSlot(k, 140, 172, impl.Cap{Kind: impl.CapUntyped, Addr: 1408, Bits: 7, Orig: true})
		}},
		{"a region as large as its region", makeCall{164, impl.CapUntyped, 10, 172}, 0, func(k *impl.Kern) {
			slotOf(k, 164).Cap.Free = 1024
			putSlot(k, 164, 172, impl.Cap{Kind: impl.CapUntyped, Addr: 2048, Bits: 10, Orig: true})
		}},
		{"the slot holds nothing", makeCall{172, impl.CapEnd, 0, 176}, impl.CodeEmpty, asItIs},
		{"a node's original", makeCall{64, impl.CapEnd, 0, 172}, impl.CodeKind, asItIs},
		{"a thread's space", makeCall{256, impl.CapEnd, 0, 172}, impl.CodeKind, asItIs},
		{"a reply", makeCall{132, impl.CapReply, 0, 172}, impl.CodeRange, asItIs},
		{"no kind", makeCall{132, 0, 0, 172}, impl.CodeRange, asItIs},
		{"bits that a kind has not", makeCall{132, impl.CapNode, 0, 172}, impl.CodeRange, asItIs},
		{"into a slot of the kernel", makeCall{132, impl.CapEnd, 0, 124}, impl.CodeRange, asItIs},
		{"into a slot of a thread", makeCall{132, impl.CapEnd, 0, 264}, impl.CodeRange, asItIs},
		{"between two slots", makeCall{132, impl.CapEnd, 0, 174}, impl.CodeRange, asItIs},
		{"into its own slot", makeCall{132, impl.CapEnd, 0, 132}, impl.CodeTaken, asItIs},
		{"into another slot that holds something", makeCall{132, impl.CapEnd, 0, 128}, impl.CodeTaken, asItIs},
		{"nothing is left", makeCall{100, impl.CapFrame, 0, 172}, impl.CodeRoom, asItIs},
		{"one word is left", makeCall{104, impl.CapFrame, 1, 172}, impl.CodeRoom, asItIs},
		{"the gap takes what is left", makeCall{148, impl.CapNode, 2, 172}, impl.CodeRoom, asItIs},
		{"larger than its region", makeCall{168, impl.CapUntyped, 7, 172}, impl.CodeRoom, asItIs},
	})
}

// Each kind and bits out of regions of each size, whole and begun, with objects of each kind on both sides.
func TestMakePromise14(t *testing.T) {
	r := rand.New(rand.NewSource(90))
	made := map[int]int{}
	for _, k := range append(makeStates(), anyKern(r, 80), anyKern(r, 120)) {
		free := freeSlots(k)
		for _, from := range regionSlots(k) {
			for _, shape := range allShapes() {
				if len(free) == 0 {
					free = []int{124}
				}
				shape.from, shape.to = from, oneOf(r, free)
				if _, code := checkMake(t, k, shape); code == impl.CodeOk {
					made[shape.kind]++
				}
			}
		}
	}
	for kind := 1; kind <= 6; kind++ {
		if made[kind] < 12 {
			t.Error("too few were made of kind", kind, made)
		}
	}
}

func TestMakePromise14Any(t *testing.T) {
	r := rand.New(rand.NewSource(91))
	codes := map[int]int{}
	for range 300 {
		k := anyKern(r, 10+r.Intn(80))
		for range 12 {
			_, code := checkMake(t, k, anyMake(r, k))
			codes[code]++
		}
	}
	for _, code := range []int{impl.CodeOk, impl.CodeEmpty, impl.CodeKind, impl.CodeRange, impl.CodeTaken, impl.CodeRoom} {
		if codes[code] < 20 {
			t.Error("too few of code", code, codes)
		}
	}
}

// New objects come into their lists by address: ahead of all others, between them, behind them.
func TestMakeListsAscend(t *testing.T) {
	for _, kind := range []int{impl.CapThread, impl.CapEnd, impl.CapNote, impl.CapFrame} {
		for _, others := range [][]int{nil, {1344}, {3072}, {1344, 1376}, {1344, 3072}, {3072, 3104}, {1344, 1376, 3072, 3104}} {
			m := &kernMaker{r: rand.New(rand.NewSource(1)), k: kernRow(2048, 10, 0)}
			for i, addr := range others {
				m.k.Slots = slices.Insert(m.k.Slots, 0, impl.TreeSlot{At: 104 + 4*i, Cap: origOf(kind, addr, 0)})
				m.object(kind, addr, 0)
			}
			k := m.k
			for i := range 3 {
				next, code := checkMake(t, k, makeCall{rowRegion, kind, 0, rowSlot(i)})
				if code != impl.CodeOk {
					t.Fatal(kind, others, code)
				}
				k = next
			}
		}
	}
}

// rowCheck follows objects that are made one behind the other of the one region of a state.
type rowCheck struct {
	k     impl.Kern
	base  int
	words int // of the region
	used  int // the end of the last object, from the region's beginning on
	sizes int // of all objects together
	gaps  int // of all words that lie unused ahead of one
	made  int
}

func rowOf(addr int, bits int, free int) rowCheck {
	return rowCheck{k: kernRow(addr, bits, free), base: addr, words: pow(bits)}
}

// add asks promise 15 of one more object; it answers whether there was room.
func (c *rowCheck) add(t *testing.T, shape makeCall) bool {
	t.Helper()
	to := rowSlot(c.made)
	size := sizeOfNew(shape.kind, shape.bits)
	gap := 0
	for (c.base+c.used+gap)%size != 0 {
		gap++
	}
	got, code := impl.MakeDo(c.k, rowRegion, shape.kind, shape.bits, to)
	if c.used+gap+size > c.words {
		if code != impl.CodeRoom || !wantKernSame(got, c.k) {
			t.Fatalf("%+v: code %d, where there is no room\n%+v", shape, code, c.k)
		}
		return false
	}
	object, held := impl.KernCap(got, to)
	if code != impl.CodeOk || !held || object.Addr != c.base+c.used+gap || wordsOf(object) != size {
		t.Fatalf("%+v: code %d, %v\n%+v", shape, code, object, c.k)
	}
	c.k, c.made = got, c.made+1
	c.used += gap + size
	c.sizes += size
	c.gaps += gap
	region, _ := impl.KernCap(got, rowRegion)
	if region.Free != c.used || c.sizes+c.gaps != c.used || c.used > c.words {
		t.Fatalf("%+v: %v, with %d words of objects and %d that lie unused", shape, region, c.sizes, c.gaps)
	}
	return true
}

// Each row of so many objects of these shapes, out of a region of which nothing came.
func eachRow(t *testing.T, c rowCheck, shapes []makeCall, objects int) int {
	t.Helper()
	refused := 0
	for _, shape := range shapes {
		next := c
		if !next.add(t, shape) {
			refused++
		}
		if objects > 1 {
			refused += eachRow(t, next, shapes, objects-1)
			continue
		}
		checkPromise16(t, next.k)
		if !impl.KernOk(next.k) {
			t.Fatalf("not ok\n%+v", next.k)
		}
	}
	return refused
}

func TestMakePromise15(t *testing.T) {
	small := []makeCall{
		{kind: impl.CapFrame}, {kind: impl.CapFrame, bits: 1}, {kind: impl.CapFrame, bits: 2}, {kind: impl.CapEnd},
		{kind: impl.CapUntyped, bits: 2}, {kind: impl.CapUntyped, bits: 3}, {kind: impl.CapNode, bits: 1},
	}
	large := append([]makeCall{{kind: impl.CapThread}, {kind: impl.CapNote}, {kind: impl.CapFrame, bits: 4}, {kind: impl.CapNode, bits: 3}, {kind: impl.CapUntyped, bits: 5}}, small[:3]...)
	for _, row := range []struct {
		addr, bits, free int
		shapes           []makeCall
	}{
		{2048, 2, 0, small}, {1292, 2, 4, small}, {2048, 3, 0, small}, {1288, 3, 8, small}, {4080, 4, 5, small}, {1296, 4, 0, small},
		{1312, 5, 32, large}, {2048, 6, 1, large}, {4032, 6, 0, large}, {3968, 6, 63, large},
	} {
		if refused := eachRow(t, rowOf(row.addr, row.bits, row.free), row.shapes, 3); refused == 0 {
			t.Error("there was always room", row)
		}
	}
	if refused := eachRow(t, rowOf(2048, 4, 0), small[:5], 5); refused == 0 {
		t.Error("there was always room")
	}
}

// Long rows by chance, until many were refused; all that fits is made.
func TestMakePromise15Any(t *testing.T) {
	r := rand.New(rand.NewSource(92))
	shapes := allShapes()
	for i := range 120 {
		bits := 2 + i%10
		c := rowOf(2048, bits, r.Intn(pow(bits)+1))
		for refused := 0; refused < 12 && c.made < 60; {
			if !c.add(t, shapes[r.Intn(len(shapes))]) {
				refused++
			}
		}
		if !wantKernOk(c.k) {
			t.Fatalf("not ok\n%+v", c.k)
		}
		checkPromise16(t, c.k)
	}
}

// A region filled to its last word with objects of one shape: as many as go into it, and not one more.
func TestMakeFilled(t *testing.T) {
	for _, shape := range allShapes() {
		for bits := 2; bits <= 11; bits++ {
			size := sizeOfNew(shape.kind, shape.bits)
			most := pow(bits) / size
			if most > 40 {
				continue
			}
			c := rowOf(2048, bits, 0)
			for range most {
				if !c.add(t, shape) {
					t.Fatal("no room", shape, bits)
				}
			}
			if c.add(t, shape) || c.gaps != 0 || most > 0 && c.used != pow(bits) {
				t.Fatal("room", shape, bits, c.used)
			}
			for _, other := range []makeCall{{kind: impl.CapFrame}, {kind: impl.CapUntyped, bits: 2}, {kind: impl.CapThread}} {
				if most > 0 && c.add(t, other) {
					t.Fatal("room behind the last word", shape, bits, other)
				}
			}
		}
	}
}

// Whatever Free is, of a region of which nothing came all is to be had; of one of which something came just what is behind the first Free words.
func TestMakeUsed(t *testing.T) {
	for free := range 65 {
		for _, shape := range allShapes() {
			c := rowOf(2048, 6, free)
			if size := sizeOfNew(shape.kind, shape.bits); c.add(t, shape) != (size <= 64) || c.gaps != 0 {
				t.Fatal(free, shape)
			}
		}
		if free == 0 {
			continue
		}
		k := kernRow(2048, 6, free)
		putSlot(&k, rowRegion, rowSlot(0), origOf(impl.CapFrame, 2048, 0))
		k.Frames = []impl.KernFrame{{At: 2048, Data: []uint32{5}}}
		for _, shape := range allShapes() {
			shape.from, shape.to = rowRegion, rowSlot(1)
			size := sizeOfNew(shape.kind, shape.bits)
			want, at := impl.CodeRoom, alignUp(2048+free, size)
			if at+size <= 2048+64 {
				want = impl.CodeOk
			}
			got, code := checkMake(t, k, shape)
			if code != want || code == impl.CodeOk && slotOf(&got, rowSlot(1)).Cap.Addr != at {
				t.Fatal(free, shape, code, want)
			}
		}
	}
}

// When all that came of a region is gone, what is made of it anew begins where the first object did.
func TestMakeAnew(t *testing.T) {
	c := rowOf(2048, 5, 0)
	for range 8 {
		c.add(t, makeCall{kind: impl.CapEnd})
	}
	k := c.k
	for i := range 8 {
		_, code := checkMake(t, k, makeCall{rowRegion, impl.CapNote, 0, rowSlot(20)})
		if code != impl.CodeRoom {
			t.Fatal("room behind", i, code)
		}
		dropOf(&k, rowSlot(i))
	}
	if slotOf(&k, rowRegion).Cap.Free != 32 {
		t.Error(slotOf(&k, rowRegion))
	}
	k, code := checkMake(t, k, makeCall{rowRegion, impl.CapNote, 0, rowSlot(20)})
	if code != impl.CodeOk || slotOf(&k, rowSlot(20)).Cap.Addr != 2048 || slotOf(&k, rowRegion).Cap.Free != 4 {
		t.Error(code, slotOf(&k, rowSlot(20)), slotOf(&k, rowRegion))
	}
}

// Runs of MakeDo, by chance, also out of regions and into nodes that were made ahead.
func TestMakePromise16(t *testing.T) {
	r := rand.New(rand.NewSource(93))
	made, inner := 0, 0
	for i := range 90 {
		k, _ := impl.BootMake(okPlan(r))
		switch i % 3 {
		case 0:
			k = kernYard()
		case 1:
			k = anyKern(r, 40)
		}
		before := len(k.Slots)
		for range 40 {
			c := anyMake(r, k)
			there := placeOf(k, c.from)
			next, code := checkMake(t, k, c)
			if code != impl.CodeOk {
				continue
			}
			if made++; k.Slots[there].Depth > 0 {
				inner++
			}
			checkPromise16(t, next)
			k = next
		}
		if len(k.Slots) < before {
			t.Fatal("slots are gone")
		}
	}
	if made < 800 || inner < 100 {
		t.Error("too few were made", made, inner)
	}
}

// In whatever state is ok no word belongs to two; states in which objects meet are refused.
func TestMakePromise16States(t *testing.T) {
	r := rand.New(rand.NewSource(94))
	oks, together := 0, 0
	ask := func(k impl.Kern) {
		if impl.KernOk(k) {
			oks++
			checkPromise16(t, k)
		} else if !apart(k) {
			together++
		}
	}
	for range 150 {
		k := anyKern(r, r.Intn(80))
		ask(k)
		for range 10 {
			ask(turned(r, k, 1+r.Intn(2)))
		}
	}
	for _, k := range append(makeStates(), anyKern(r, 50), anyKern(r, 50)) {
		ask(k)
		if len(k.Slots) > 100 {
			continue
		}
		// Each object is laid upon, just ahead of and just behind each other one, with all that names it.
		for i, s := range k.Slots {
			for _, other := range k.Slots {
				for _, addr := range []int{other.Cap.Addr, other.Cap.Addr - wordsOf(s.Cap), other.Cap.Addr - wordsOf(s.Cap)/2, other.Cap.Addr + wordsOf(other.Cap)/2, other.Cap.Addr + wordsOf(other.Cap)} {
					if s.Cap.Orig {
						ask(movedObject(k, i, addr))
					}
				}
			}
		}
	}
	if oks < 1000 || together < 3000 {
		t.Error("the states are not as they were meant", oks, together)
	}
}

// movedObject is a state with the object of an original at another address, all naming it there.
func movedObject(k impl.Kern, place int, addr int) impl.Kern {
	c := kernCopy(k)
	old := c.Slots[place].Cap
	for i := range c.Slots {
		if named := &c.Slots[i].Cap; named.Addr == old.Addr && (named.Kind == old.Kind && named.Bits == old.Bits) {
			named.Addr = addr
		}
	}
	for i := range c.Ends {
		if old.Kind == impl.CapEnd && c.Ends[i].At == old.Addr {
			c.Ends[i].At = addr
		}
	}
	for i := range c.Notes {
		if old.Kind == impl.CapNote && c.Notes[i].At == old.Addr {
			c.Notes[i].At = addr
		}
	}
	for i := range c.Frames {
		if old.Kind == impl.CapFrame && c.Frames[i].At == old.Addr {
			c.Frames[i].At = addr
		}
	}
	for i := range c.Threads {
		if old.Kind == impl.CapEnd && c.Threads[i].On == old.Addr {
			c.Threads[i].On = addr
		}
	}
	slices.SortFunc(c.Ends, func(a, b impl.KernEnd) int { return a.At - b.At })
	slices.SortFunc(c.Notes, func(a, b impl.KernNote) int { return a.At - b.At })
	slices.SortFunc(c.Frames, func(a, b impl.KernFrame) int { return a.At - b.At })
	return c
}

// tightPart is one way in which a part of a call to kernTight is right or wrong.
type tightPart struct {
	name string
	n    int
	bits int
	code int // what it is refused with by itself
}

func tightShapes() []tightPart {
	return []tightPart{
		{"an endpoint", impl.CapEnd, 0, impl.CodeOk}, {"a region that is too large", impl.CapUntyped, 8, impl.CodeRoom},
		{"no kind", 0, 0, impl.CodeRange}, {"a reply", impl.CapReply, 0, impl.CodeRange},
		{"a frame of 7 bits", impl.CapFrame, 7, impl.CodeRange}, {"a node of no bits", impl.CapNode, 0, impl.CodeRange},
	}
}

func tightTos() []tightPart {
	return []tightPart{
		{"a free slot", tightFree, 0, impl.CodeOk}, {"one that is taken", 128, 0, impl.CodeTaken},
		{"the kernel's, free", 124, 0, impl.CodeRange}, {"the kernel's, taken", 64, 0, impl.CodeRange},
		{"a thread's, free", tightThread + 4, 0, impl.CodeRange}, {"a thread's, taken", tightThread, 0, impl.CodeRange},
		{"no multiple of 4", tightFree + 2, 0, impl.CodeRange}, {"in a region", 2048, 0, impl.CodeRange}, {"nowhere", -4, 0, impl.CodeRange},
	}
}

func tightFroms(depth int) []tightPart {
	return []tightPart{
		{"a region", tightRegion(depth), 0, impl.CodeOk}, {"an endpoint", tightEnd, 0, impl.CodeKind},
		{"a node", 64, 0, impl.CodeKind}, {"a thread's space", tightThread, 0, impl.CodeKind},
		{"an empty slot", tightFree + 4, 0, impl.CodeEmpty}, {"the kernel's, empty", 120, 0, impl.CodeEmpty},
		{"no slot", 2048, 0, impl.CodeEmpty}, {"no address", -1, 0, impl.CodeEmpty},
	}
}

// checkTight asks one state for all calls, each part of them right and wrong.
func checkTight(t *testing.T, k impl.Kern, depth int, deep tightPart, room tightPart, seen map[[2]int]bool) {
	t.Helper()
	for _, from := range tightFroms(depth) {
		for _, shape := range tightShapes() {
			for _, to := range tightTos() {
				c := makeCall{from.n, shape.n, shape.bits, to.n}
				want := firstCode(seen, from, shape, to, deep, room)
				if code := c.code(k); code != want {
					t.Fatalf("%s, %s, %s, %s, %s: code %d, want %d", from.name, shape.name, to.name, deep.name, room.name, code, want)
				}
				if (c.from+c.to+c.kind)%7 == 0 || want == impl.CodeOk {
					checkMake(t, k, c)
				}
			}
		}
	}
}

// Each two codes that apply at once, and more: the first of the document's list is told.
func TestMakeOrderOfCodes(t *testing.T) {
	seen := map[[2]int]bool{}
	for _, depth := range []int{0, 10, 11, 12} {
		for _, slots := range []int{0, 298, 299, 300} {
			for _, full := range []bool{false, depth < 12} {
				k := kernTight(depth, slots, full)
				if slots > 0 && len(k.Slots) != slots || !impl.KernOk(k) {
					t.Fatal("the state is not as it was meant", depth, slots, full)
				}
				deep := tightPart{name: fmt.Sprint("depth ", depth, " slots ", slots)}
				if depth >= 11 || slots >= 299 {
					deep.code = impl.CodeDeep
				}
				room := tightPart{name: fmt.Sprint("full ", full)}
				if full {
					room.code = impl.CodeRoom
				}
				checkTight(t, k, depth, deep, room, seen)
			}
		}
	}
	order := []int{impl.CodeEmpty, impl.CodeKind, impl.CodeRange, impl.CodeTaken, impl.CodeDeep, impl.CodeRoom}
	for i, first := range order {
		for _, second := range order[i+1:] {
			// No slot both holds nothing and holds another kind.
			if (first != impl.CodeEmpty || second != impl.CodeKind) && !seen[[2]int{first, second}] {
				t.Error("not asked", first, second)
			}
		}
	}
}

// firstCode is the first code that applies, in the order of the document; it notes which apply at once.
func firstCode(seen map[[2]int]bool, parts ...tightPart) int {
	var codes []int
	for _, code := range []int{impl.CodeEmpty, impl.CodeKind, impl.CodeRange, impl.CodeTaken, impl.CodeDeep, impl.CodeRoom} {
		if slices.ContainsFunc(parts, func(p tightPart) bool { return p.code == code }) {
			codes = append(codes, code)
		}
	}
	if len(codes) == 0 {
		return impl.CodeOk
	}
	for _, other := range codes[1:] {
		seen[[2]int{codes[0], other}] = true
	}
	return codes[0]
}

// The bounds of the tree are met exactly but for the one depth, and the one slot, that are to be left.
func TestMakeDeep(t *testing.T) {
	for depth := range 13 {
		for _, shape := range []makeCall{{kind: impl.CapEnd}, {kind: impl.CapUntyped, bits: 2}, {kind: impl.CapThread}} {
			want := impl.CodeOk
			if depth >= 11 {
				want = impl.CodeDeep
			}
			shape.from, shape.to = tightRegion(depth), tightFree
			k, code := checkMake(t, kernTight(depth, 0, false), shape)
			if code != want || code == impl.CodeOk && slotOf(&k, tightFree).Depth != depth+1 {
				t.Error(depth, shape, code)
			}
		}
	}
	for slots := 290; slots <= 300; slots++ {
		want := impl.CodeOk
		if slots >= 299 {
			want = impl.CodeDeep
		}
		if got, code := checkMake(t, kernTight(3, slots, false), makeCall{tightRegion(3), impl.CapThread, 0, tightFree}); code != want {
			t.Error(slots, len(got.Slots), code)
		}
	}
	k, code := checkMake(t, kernTight(10, 298, false), makeCall{tightRegion(10), impl.CapEnd, 0, tightFree})
	if code != impl.CodeOk || len(k.Slots) != 299 {
		t.Error(code, len(k.Slots))
	}
	if _, code = checkMake(t, k, makeCall{tightRegion(10), impl.CapEnd, 0, tightFree + 4}); code != impl.CodeDeep {
		t.Error(code)
	}
}

// One behind the other, from few slots on until all of the nodes are taken.
func TestMakeMany(t *testing.T) {
	c := rowOf(2048, 11, 0)
	for c.made < 288 {
		if !c.add(t, makeCall{kind: impl.CapFrame, bits: c.made % 3}) {
			t.Fatal("no room", c.made)
		}
	}
	if len(c.k.Slots) != 298 || !wantKernOk(c.k) {
		t.Fatal("slots", len(c.k.Slots))
	}
	checkPromise16(t, c.k)
}

// Each address in and around memory, as the slot of the region and as the slot of the original.
func TestMakeEachAddress(t *testing.T) {
	k := kernYard()
	last := dropped(k, 144)
	for at := -9; at <= 4105; at++ {
		for _, c := range []makeCall{{at, impl.CapEnd, 0, 172}, {132, impl.CapEnd, 0, at}, {at, impl.CapFrame, 0, at}} {
			if got, want := c.code(k), wantMakeCode(k, c); got != want {
				t.Fatalf("%+v: %d, want %d", c, got, want)
			}
		}
		if at%4 == 0 {
			checkMake(t, last, makeCall{140, impl.CapNode, 2, at})
			checkMake(t, last, makeCall{at, impl.CapThread, 0, 1540})
		}
	}
	for _, at := range farInts {
		for _, near := range []int{at, at + 132, at + 172} {
			checkMake(t, k, makeCall{near, impl.CapEnd, 0, 172})
			checkMake(t, k, makeCall{132, impl.CapEnd, 0, near})
		}
	}
}

func dropped(k impl.Kern, at int) impl.Kern {
	c := kernCopy(k)
	dropOf(&c, at)
	return c
}

// Each kind and bits in and around what there is, and far ones.
func TestMakeEachKind(t *testing.T) {
	k := kernYard()
	numbers := append([]int{-3, -2, -1, 0, 1, 2, 3, 4, 5, 6, 7, 8, 9, 10, 11, 12, 13, 16, 31, 32, 33, 63, 64, 65, 128, 255, 256, 257, 258, 4096, 1<<32 + 4, math.MinInt + 4}, farInts...)
	for _, kind := range numbers {
		for _, bits := range numbers {
			for _, from := range []int{132, 104} {
				_, code := checkMake(t, k, makeCall{from, kind, bits, 172})
				if (code == impl.CodeRange) != (sizeOfNew(kind, bits) == 0) {
					t.Fatal(kind, bits, code)
				}
			}
		}
	}
	for _, at := range farInts {
		for _, bits := range farInts {
			checkMake(t, k, makeCall{at, bits, at, bits})
		}
	}
}

// A node that was made holds what is made then; a region that was made is made of.
func TestMakeOfWhatWasMade(t *testing.T) {
	k := kernRow(2048, 8, 0)
	steps := []struct {
		call makeCall
		code int
		addr int
	}{
		{makeCall{rowRegion, impl.CapNode, 1, rowSlot(0)}, 0, 2048},
		{makeCall{rowRegion, impl.CapUntyped, 6, 2048}, 0, 2112},
		{makeCall{2048, impl.CapUntyped, 4, 2052}, 0, 2112},
		{makeCall{2052, impl.CapFrame, 0, rowSlot(1)}, 0, 2112},
		{makeCall{2052, impl.CapNode, 1, rowSlot(2)}, 0, 2120},
		{makeCall{2052, impl.CapFrame, 0, 2120}, impl.CodeRoom, 0},
		{makeCall{2048, impl.CapThread, 0, 2120}, 0, 2144},
		{makeCall{2048, impl.CapEnd, 0, 2144}, impl.CodeRange, 0},
		{makeCall{2048, impl.CapFrame, 0, 2124}, impl.CodeRoom, 0},
		{makeCall{rowRegion, impl.CapUntyped, 8, 2124}, impl.CodeRoom, 0},
		{makeCall{rowRegion, impl.CapUntyped, 6, 2124}, 0, 2176},
		{makeCall{2124, impl.CapEnd, 0, 2124}, impl.CodeTaken, 0},
		{makeCall{2124, impl.CapUntyped, 6, rowSlot(3)}, 0, 2176},
		{makeCall{rowSlot(3), impl.CapFrame, 6, rowSlot(4)}, 0, 2176},
		{makeCall{rowSlot(4), impl.CapFrame, 6, rowSlot(5)}, impl.CodeKind, 0},
	}
	for i, s := range steps {
		next, code := checkMake(t, k, s.call)
		if code != s.code {
			t.Fatal("step", i, code)
		}
		if code == impl.CodeOk && slotOf(&next, s.call.to).Cap.Addr != s.addr {
			t.Fatal("step", i, slotOf(&next, s.call.to))
		}
		k = next
		checkPromise16(t, k)
	}
}

// What is made goes into the tree just behind its region, ahead of what came of it sooner.
func TestMakeOrderOfSlots(t *testing.T) {
	k, _ := checkMake(t, kernYard(), makeCall{140, impl.CapEnd, 0, 172})
	k, _ = checkMake(t, k, makeCall{148, impl.CapEnd, 0, 176})
	k, _ = checkMake(t, k, makeCall{140, impl.CapNote, 0, 180})
	var ats []int
	i := placeOf(k, 140)
	for _, s := range k.Slots[i:impl.TreeEnd(k.Slots, i)] {
		ats = append(ats, s.At)
	}
	if !slices.Equal(ats, []int{140, 180, 172, 144, 148, 176, 152, 156}) {
		t.Error(ats)
	}
}

// makeAsked is calls of kernYard of which each has another answer.
func makeAsked() []makeCall {
	return []makeCall{
		{132, impl.CapThread, 0, 172}, {136, impl.CapEnd, 0, 172}, {140, impl.CapNote, 0, 172}, {148, impl.CapFrame, 2, 172}, {164, impl.CapNode, 3, 1536}, {164, impl.CapUntyped, 5, 1536},
		{172, impl.CapEnd, 0, 176}, {64, impl.CapEnd, 0, 172}, {132, impl.CapReply, 0, 172}, {132, impl.CapEnd, 0, 124}, {132, impl.CapEnd, 0, 128}, {100, impl.CapEnd, 0, 172},
		{0, 0, 0, 0}, {-1, -1, -1, -1}, {math.MinInt, math.MinInt, math.MinInt, math.MinInt}, {math.MaxInt, math.MaxInt, math.MaxInt, math.MaxInt},
	}
}

func TestMakeNotOk(t *testing.T) {
	r := rand.New(rand.NewSource(95))
	calls := makeAsked()
	refusedMake(t, "the zero state", impl.Kern{}, calls)
	for i := range 300 {
		k := wildKern(r)
		if i%3 == 0 {
			k = turned(r, kernYard(), 2)
		}
		if !wantKernOk(k) {
			refusedMake(t, fmt.Sprintf("%+v", k), k, append(calls, anyMake(r, k)))
		}
	}
	// A state may fail in what making does not come by, and in what it would mend.
	changes := []func(k *impl.Kern){
		func(k *impl.Kern) { k.Ticks = -1 },
		func(k *impl.Kern) { k.Ticks = impl.KernMaxTicks + 1 },
		func(k *impl.Kern) { k.Bits = 8 },
		func(k *impl.Kern) { k.Bits = 11 },
		func(k *impl.Kern) { k.Bits = 13 },
		func(k *impl.Kern) { k.Ready[2] = nil },
		func(k *impl.Kern) { k.Ready[3] = []int{512} },
		func(k *impl.Kern) { threadOf(k, 256).Slice = 0 },
		func(k *impl.Kern) { k.Frames[0].Data = k.Frames[0].Data[:7] },
		func(k *impl.Kern) { k.Frames = append(k.Frames, impl.KernFrame{At: 4095, Data: []uint32{0}}) },
		func(k *impl.Kern) {
			k.Threads = slices.Insert(k.Threads, 1, impl.KernThread{At: 512, Slice: 4})
		},
		func(k *impl.Kern) { k.Ends = slices.Insert(k.Ends, 1, impl.KernEnd{At: 1024}) },
		func(k *impl.Kern) { k.Ends[0].Kind = 1 },
		func(k *impl.Kern) { k.Notes[1].Word = 1 },
		func(k *impl.Kern) { slices.Reverse(k.Notes) },
		func(k *impl.Kern) { slotOf(k, 132).Cap.Free = -1 },
		func(k *impl.Kern) { slotOf(k, 132).Cap.Free = 513 },
		func(k *impl.Kern) { slotOf(k, 132).Cap.Addr = 520 },
		func(k *impl.Kern) { slotOf(k, 132).Cap.Orig = false },
		func(k *impl.Kern) { slotOf(k, 132).Cap.Bits = 12 },
		func(k *impl.Kern) { slotOf(k, 136).Cap.Bits = 9 },
		func(k *impl.Kern) { slotOf(k, 140).Cap.Free = 39 },
		func(k *impl.Kern) { slotOf(k, 128).At = 1540; slotOf(k, 160).At = 1536 },
	}
	for i, change := range changes {
		k := kernYard()
		change(&k)
		if wantKernOk(k) {
			t.Error("ok", i)
		}
		refusedMake(t, fmt.Sprint("change ", i), k, calls)
	}
}

// Changes of a state: of what is not ok there is nothing; of what is ok is made as it is then.
func TestMakeEachChange(t *testing.T) {
	calls := makeAsked()
	oks, others := 0, 0
	eachChange(kernYard(), []int{0, 1, 2, 3, 4, 5, 7, 8, 64, 100, 128, 172, 255, 256, 512, 1024, 1536, 4092, 4096, math.MaxInt}, func(path string, k impl.Kern) {
		if !wantKernOk(k) {
			others++
			refusedMake(t, path, k, []makeCall{calls[others%len(calls)]})
			return
		}
		oks++
		for i := range 3 {
			checkMake(t, k, calls[(oks+5*i)%len(calls)])
		}
	})
	if oks < 500 || others < 4000 {
		t.Error("the changes are not as they were meant", oks, others)
	}
}

// Nothing is written into an argument, or behind the ends of its lists, and what stands there counts for nothing.
func TestMakeArgumentsStay(t *testing.T) {
	r := rand.New(rand.NewSource(96))
	states := append(makeStates(), impl.Kern{})
	for range 25 {
		k := anyKern(r, 60)
		states = append(states, k, turned(r, k, 2), wildKern(r))
	}
	for _, k := range states {
		a := sparedKern(k)
		whole := wholeKern(a)
		calls := makeAsked()
		for range 20 {
			calls = append(calls, anyMake(r, k))
		}
		for _, c := range calls {
			got, code := c.do(a)
			want, wantCode := c.do(k)
			if code != wantCode || c.code(a) != wantCode || !wantKernSame(got, want) {
				t.Fatalf("%+v: what stands behind the end of a list counts\n%+v", c, k)
			}
			if !reflect.DeepEqual(wholeKern(a), whole) {
				t.Fatalf("%+v: an argument was written into\n%+v", c, k)
			}
		}
	}
}

// Answers are new memory, with their spare room, also where nothing is made: they share none with the argument, and no two of their lists share any.
func TestMakeAnswersStay(t *testing.T) {
	r := rand.New(rand.NewSource(97))
	states := makeStates()
	for range 20 {
		states = append(states, anyKern(r, 60))
	}
	for _, k := range states {
		a := sparedKern(k)
		calls := makeAsked()
		for range 20 {
			calls = append(calls, anyMake(r, k))
		}
		for _, c := range calls {
			got, _ := c.do(a)
			spans := append(memoryOf(reflect.ValueOf(&got).Elem()), memoryOf(reflect.ValueOf(&a).Elem())...)
			slices.SortFunc(spans, func(a [2]uintptr, b [2]uintptr) int { return slices.Compare(a[:], b[:]) })
			for i := 1; i < len(spans); i++ {
				if spans[i][0] < spans[i-1][1] {
					t.Fatalf("%+v: lists share memory\n%+v", c, k)
				}
			}
		}
	}
}

// An answer stays what it was, whatever is written into the argument, and the other way around.
func TestMakeAnswersAreOwn(t *testing.T) {
	for _, c := range makeAsked() {
		k := kernYard()
		want, _ := wantMakeDo(k, c)
		got, _ := c.do(k)
		eachLeaf(reflect.ValueOf(&k).Elem(), "", func(path string, leaf reflect.Value) { leaf.SetZero() })
		if !wantKernSame(got, want) {
			t.Fatalf("%+v: an answer changed with its argument\n%+v", c, got)
		}
		k = kernYard()
		got, _ = c.do(k)
		eachLeaf(reflect.ValueOf(&got).Elem(), "", func(path string, leaf reflect.Value) { leaf.SetZero() })
		if !wantKernSame(k, kernYard()) {
			t.Fatalf("%+v: an argument changed with its answer\n%+v", c, k)
		}
	}
}

// One question has one answer, however often it is asked, by however many at once, and whatever was asked in between.
func TestMakeKeepsNothing(t *testing.T) {
	r := rand.New(rand.NewSource(98))
	states := []impl.Kern{kernYard(), anyKern(r, 60), kernTight(10, 298, false), {}}
	var askers sync.WaitGroup
	for asker := range 8 {
		askers.Go(func() {
			for i := range 60 {
				k := states[(asker+i)%len(states)]
				for _, c := range makeAsked() {
					want, wantCode := impl.Kern{}, impl.CodeRange
					if len(k.Slots) > 0 {
						want, wantCode = wantMakeDo(k, c)
					}
					if got, code := c.do(k); code != wantCode || c.code(k) != wantCode || !wantKernSame(got, want) {
						t.Errorf("%+v: %d\n%+v", c, code, k)
						return
					}
				}
			}
		})
	}
	askers.Wait()
}

// Lists that are empty are as good as such that are not there.
func TestMakeEmptyLists(t *testing.T) {
	k := kernRow(2048, 9, 7)
	k.Threads, k.Ends, k.Notes, k.Frames = []impl.KernThread{}, make([]impl.KernEnd, 0, 3), []impl.KernNote{}, make([]impl.KernFrame, 0, 1)
	for prio := range k.Ready {
		k.Ready[prio] = make([]int, 0, 2)
	}
	for _, shape := range allShapes() {
		shape.from, shape.to = rowRegion, rowSlot(0)
		got, _ := checkMake(t, k, shape)
		if other, _ := shape.do(kernRow(2048, 9, 7)); !wantKernSame(got, other) {
			t.Error(shape)
		}
	}
}

// On words: what is left is a state whose words read back, and which can be looked into and taken turns in.
func TestMakeOnWords(t *testing.T) {
	r := rand.New(rand.NewSource(99))
	for range 60 {
		k := anyKern(r, 60)
		for range 6 {
			got, _ := checkMake(t, k, anyMake(r, k))
			if back, ok := impl.LayRead(impl.LayMake(got)); !ok || !wantKernSame(back, got) {
				t.Fatalf("not read back\n%+v", got)
			}
			k = got
		}
	}
	k, _ := checkMake(t, kernYard(), makeCall{132, impl.CapThread, 0, 172})
	if woken := checkReady(t, k, wakeCall(512)); !slices.Equal(woken.Ready[0], []int{512}) {
		t.Error(woken.Ready)
	}
	if c, code, left := impl.LookCap(k, 256, impl.LookRef(5, 11)); code != impl.CodeOk || left != 0 || c != origOf(impl.CapThread, 512, 0) {
		t.Error(c, code, left)
	}
}
