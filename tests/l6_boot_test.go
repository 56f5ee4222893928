package tests

import (
	"fmt"
	"math"
	"math/rand"
	"reflect"
	"slices"
	"testing"

	"loop.example/donjon/impl"
)

// refusedPlan asks all four functions for what they answer of a plan that is not ok.
func refusedPlan(t *testing.T, name string, p impl.BootPlan) {
	t.Helper()
	if wantBootOk(p) {
		t.Errorf("%s: the test's own answer is true", name)
	}
	if impl.BootOk(p) {
		t.Errorf("%s: BootOk", name)
	}
	if k, ok := impl.BootMake(p); ok || !reflect.DeepEqual(withNil(k), impl.Kern{}) {
		t.Errorf("%s: BootMake %v %+v", name, ok, k)
	}
	for _, addr := range []int{math.MinInt, -1, 0, 64, 128, 160, 200, 256, 511, 1024, 4095, 4096, math.MaxInt} {
		if label := impl.BootLabel(p, addr); label != 0 {
			t.Errorf("%s: label %d of %d", name, label, addr)
		}
	}
	if labels := impl.BootLabels(p); labels != 0 {
		t.Errorf("%s: %d labels", name, labels)
	}
}

// borderWords is the words at the borders of each part, and such as belong to nobody.
func borderWords(p impl.BootPlan) []int {
	words := append([]int{0, 1, 63, 64, 68, 124, 127, 1<<p.Bits - 1, 1 << p.Bits, 4095, 4096, 4097}, farInts...)
	for _, part := range wantParts(p) {
		words = append(words, part.addr-1, part.addr, part.end()-1, part.end())
	}
	return words
}

func checkLabels(t *testing.T, p impl.BootPlan) {
	t.Helper()
	parts := wantParts(p)
	for _, addr := range borderWords(p) {
		if got, want := impl.BootLabel(p, addr), labelIn(parts, addr); got != want {
			t.Fatalf("label of %d: %d, want %d\n%+v", addr, got, want, p)
		}
	}
}

// checkBoot holds all four functions against the document; it answers whether the plan is ok.
func checkBoot(t *testing.T, p impl.BootPlan) bool {
	t.Helper()
	want, wantOk := wantBootMake(p)
	if !wantOk {
		refusedPlan(t, fmt.Sprintf("%+v", p), p)
		return false
	}
	k, ok := impl.BootMake(p)
	if !ok || !impl.BootOk(p) || !wantKernSame(k, want) {
		t.Fatalf("BootMake %v\n%+v\nwant\n%+v\n%+v", ok, k, want, p)
	}
	if labels := impl.BootLabels(p); labels != 1+len(p.Doms)+len(p.Links) {
		t.Fatalf("%d labels of\n%+v", labels, p)
	}
	checkLabels(t, p)
	return true
}

// bootOriginals is the originals of a state, in the order of the tree.
func bootOriginals(k impl.Kern) []impl.Cap {
	var caps []impl.Cap
	for _, s := range k.Slots {
		if s.Cap.Orig {
			caps = append(caps, s.Cap)
		}
	}
	return caps
}

// checkPromise9 takes the parts from the originals of the state that is made: three for each domain, one for each link.
func checkPromise9(t *testing.T, p impl.BootPlan) {
	t.Helper()
	k, ok := impl.BootMake(p)
	if !ok || !impl.KernOk(k) || !wantKernOk(k) {
		t.Fatalf("what is made is not ok: %v\n%+v", ok, p)
	}
	originals := bootOriginals(k)
	if len(originals) != 3*len(p.Doms)+len(p.Links) {
		t.Fatalf("%d parts\n%+v", len(originals), p)
	}
	labels := map[int]int{}
	for i, c := range originals {
		label := i/3 + 1
		if i >= 3*len(p.Doms) {
			label = len(p.Doms) + 1 + i - 3*len(p.Doms)
		}
		size := impl.CapSize(c.Kind, c.Bits)
		if c.Addr%size != 0 || c.Addr < 128 || c.Addr+size > 1<<p.Bits {
			t.Fatalf("a part at %d of %d words\n%+v", c.Addr, size, p)
		}
		for addr := c.Addr; addr < c.Addr+size; addr++ {
			if labels[addr] != 0 {
				t.Fatalf("two parts meet at %d\n%+v", addr, p)
			}
			labels[addr] = label
		}
		for _, other := range originals[:i] {
			if impl.WordMeet(c.Addr, size, other.Addr, impl.CapSize(other.Kind, other.Bits)) {
				t.Fatalf("parts meet: %v, %v\n%+v", c, other, p)
			}
		}
	}
	for addr := -2; addr < 1<<p.Bits+2; addr++ {
		if got := impl.BootLabel(p, addr); got != labels[addr] || got >= impl.BootLabels(p) {
			t.Fatalf("label of %d: %d, want %d\n%+v", addr, got, labels[addr], p)
		}
	}
}

// givenTo is what the plan gives a domain of what is shared, in its order.
func givenTo(p impl.BootPlan, dom int, objects []impl.Cap) []impl.Cap {
	var given []impl.Cap
	for i, l := range p.Links {
		for _, to := range l.To {
			if to.Dom == dom {
				given = append(given, impl.Cap{Kind: l.Kind, Addr: objects[i].Addr, Bits: l.Bits, Rights: to.Rights, Badge: to.Badge})
			}
		}
	}
	return given
}

// checkPromise10 looks into each slot of each node.
func checkPromise10(t *testing.T, p impl.BootPlan) {
	t.Helper()
	k, _ := impl.BootMake(p)
	originals := bootOriginals(k)
	objects := originals[3*len(p.Doms):]
	seen := len(originals) - len(p.Doms)
	for dom := range p.Doms {
		node, thread := originals[3*dom].Addr, originals[3*dom+1].Addr
		own := []impl.Cap{copyOf(impl.CapNode, node, 3), copyOf(impl.CapThread, thread, 0), originals[3*dom+2]}
		want := append(own, givenTo(p, dom, objects)...)
		var got []impl.Cap
		for at := node; at < node+32; at += 4 {
			if c, ok := impl.KernCap(k, at); ok {
				got = append(got, c)
			} else if at < node+4*len(want) {
				t.Fatalf("domain %d: nothing at %d\n%+v", dom, at, p)
			}
		}
		if !slices.Equal(got, want) {
			t.Fatalf("domain %d holds %v\nwant %v\n%+v", dom, got, want, p)
		}
		if c, ok := impl.KernCap(k, thread); !ok || c != copyOf(impl.CapNode, node, 3) {
			t.Fatalf("domain %d: its space is %v %v\n%+v", dom, c, ok, p)
		}
		seen += len(want) + 1
	}
	if seen != len(k.Slots) {
		t.Fatalf("%d slots, want %d\n%+v", len(k.Slots), seen, p)
	}
}

// bootWritten is slots as lines of At, depth and text.
type bootWritten struct {
	at    int
	depth int
	text  string
}

func checkBootSlots(t *testing.T, k impl.Kern, want []bootWritten) {
	t.Helper()
	if len(k.Slots) != len(want) {
		t.Errorf("%d slots, want %d", len(k.Slots), len(want))
	}
	for i := range min(len(k.Slots), len(want)) {
		s := k.Slots[i]
		if got := (bootWritten{s.At, s.Depth, impl.CapText(s.Cap)}); got != want[i] {
			t.Errorf("slot %d: %v, want %v", i, got, want[i])
		}
	}
}

func TestBootConstants(t *testing.T) {
	if impl.BootMaxDoms != 3 || impl.BootMaxLinks != 6 || impl.BootMaxCaps != 5 {
		t.Error("the bounds of plans are 3, 6 and 5")
	}
}

func TestBootWrittenOutOne(t *testing.T) {
	k, ok := impl.BootMake(planOne())
	if !ok || k.Bits != 9 || k.Ticks != 0 || len(k.Ends)+len(k.Notes)+len(k.Frames) != 0 {
		t.Fatal(ok, k)
	}
	checkBootSlots(t, k, []bootWritten{
		{64, 0, "node* 128 3 0 0"},
		{160, 1, "node 128 3 0 0"},
		{128, 1, "node 128 3 0 0"},
		{68, 0, "thread* 160"},
		{132, 1, "thread 160"},
		{136, 0, "untyped* 192 6 0"},
	})
	if !slices.Equal(k.Threads, []impl.KernThread{{At: 160, State: impl.KernRuns, Prio: 2, Max: 5, Slice: 4}}) {
		t.Errorf("%+v", k.Threads)
	}
	for prio, list := range k.Ready {
		if want := map[int][]int{2: {160}}[prio]; !slices.Equal(list, want) {
			t.Error("ready", prio, list)
		}
	}
	if impl.KernCur(k) != 160 || impl.BootLabels(planOne()) != 2 {
		t.Error(impl.KernCur(k), impl.BootLabels(planOne()))
	}
}

func TestBootWrittenOutFull(t *testing.T) {
	k, ok := impl.BootMake(planFull())
	if !ok || k.Bits != 11 || k.Ticks != 0 {
		t.Fatal(ok, k)
	}
	checkBootSlots(t, k, []bootWritten{
		{64, 0, "node* 128 3 0 0"},
		{160, 1, "node 128 3 0 0"},
		{128, 1, "node 128 3 0 0"},
		{68, 0, "thread* 160"},
		{132, 1, "thread 160"},
		{136, 0, "untyped* 192 5 0"},
		{72, 0, "node* 224 3 0 0"},
		{256, 1, "node 224 3 0 0"},
		{224, 1, "node 224 3 0 0"},
		{76, 0, "thread* 256"},
		{228, 1, "thread 256"},
		{232, 0, "untyped* 512 8 0"},
		{80, 0, "node* 768 3 0 0"},
		{800, 1, "node 768 3 0 0"},
		{768, 1, "node 768 3 0 0"},
		{84, 0, "thread* 800"},
		{772, 1, "thread 800"},
		{776, 0, "untyped* 896 7 0"},
		{88, 0, "end* 1024 rwg 0"},
		{144, 1, "end 1024 w 1"},
		{236, 1, "end 1024 - 0"},
		{140, 1, "end 1024 rwg 65535"},
		{92, 0, "frame* 1028 0 rw"},
		{780, 1, "frame 1028 0 rw"},
		{96, 0, "note* 1032 rw 0"},
		{100, 0, "frame* 1088 6 rw"},
		{784, 1, "frame 1088 6 w"},
		{148, 1, "frame 1088 6 -"},
		{240, 1, "frame 1088 6 r"},
		{104, 0, "note* 1152 rw 0"},
		{244, 1, "note 1152 r 9"},
		{152, 1, "note 1152 rw 65535"},
		{108, 0, "end* 1156 rwg 0"},
		{156, 1, "end 1156 g 0"},
	})
	if !slices.Equal(k.Threads, []impl.KernThread{
		{At: 160, State: impl.KernRuns, Prio: 3, Max: 7, Slice: 4},
		{At: 256, State: impl.KernRuns, Slice: 4},
		{At: 800, State: impl.KernRuns, Prio: 3, Max: 1, Slice: 4},
	}) {
		t.Errorf("%+v", k.Threads)
	}
	got := withNil(impl.Kern{Ends: k.Ends, Notes: k.Notes, Frames: k.Frames, Ready: k.Ready})
	want := impl.Kern{
		Ends:   []impl.KernEnd{{At: 1024}, {At: 1156}},
		Notes:  []impl.KernNote{{At: 1032}, {At: 1152}},
		Frames: []impl.KernFrame{{At: 1028, Data: make([]uint32, 1)}, {At: 1088, Data: make([]uint32, 64)}},
		Ready:  [8][]int{0: {256}, 3: {160, 800}},
	}
	if !reflect.DeepEqual(got, want) {
		t.Errorf("%+v", got)
	}
	if impl.KernCur(k) != 160 {
		t.Error(impl.KernCur(k))
	}
}

func TestBootWrittenOutLabels(t *testing.T) {
	p := planFull()
	// Each row is the first word with a label, and the label up to the next row.
	rows := [][2]int{{-5, 0}, {128, 1}, {224, 2}, {288, 0}, {512, 2}, {768, 3}, {832, 0}, {896, 3}, {1024, 4}, {1028, 5}, {1029, 0}, {1032, 6}, {1036, 0}, {1088, 7}, {1152, 8}, {1156, 9}, {1160, 0}, {4200, 0}}
	for i, row := range rows[:len(rows)-1] {
		for addr := row[0]; addr < rows[i+1][0]; addr++ {
			if got := impl.BootLabel(p, addr); got != row[1] {
				t.Fatalf("label of %d: %d, want %d", addr, got, row[1])
			}
		}
	}
	for _, addr := range farInts {
		if got := impl.BootLabel(p, addr); got != 0 {
			t.Error("label of", addr, got)
		}
	}
	if impl.BootLabels(p) != 10 {
		t.Error(impl.BootLabels(p))
	}
}

func TestBootPlans(t *testing.T) {
	for _, p := range bootPlans() {
		if !checkBoot(t, p) {
			t.Fatalf("not ok\n%+v", p)
		}
		checkPromise9(t, p)
		checkPromise10(t, p)
	}
}

// What is made is a state like any other: it can be asked, and laid and read back.
func TestBootIsState(t *testing.T) {
	r := rand.New(rand.NewSource(6))
	plans := bootPlans()
	for range 100 {
		plans = append(plans, okPlan(r))
	}
	for _, p := range plans {
		k, _ := impl.BootMake(p)
		if !checkKern(t, k) || !checkLay(t, k) {
			t.Fatalf("not ok\n%+v", p)
		}
		checkPromise6(t, k)
		if back, ok := impl.LayRead(impl.LayMake(k)); !ok || !impl.KernSame(back, k) {
			t.Fatalf("not read back\n%+v", p)
		}
	}
}

// bootLinks is one link of each kind and size.
func bootLinks() []impl.BootLink {
	links := []impl.BootLink{{Kind: impl.CapEnd}, {Kind: impl.CapNote}}
	for bits := range 7 {
		links = append(links, impl.BootLink{Kind: impl.CapFrame, Bits: bits})
	}
	return links
}

// bootRegions is one to three domains with regions of each of their sizes.
func bootRegions() [][]impl.BootDom {
	lists := [][]impl.BootDom{nil}
	for i := 0; i < len(lists); i++ {
		if len(lists[i]) == 3 {
			break
		}
		for bits := 5; bits <= 8; bits++ {
			lists = append(lists, append(slices.Clone(lists[i]), impl.BootDom{Bits: bits}))
		}
	}
	return lists[1:]
}

// Parts of all sizes behind each other, in memory of each size.
func TestBootAllSizes(t *testing.T) {
	links := bootLinks()
	oks, others, gaps, tights := 0, 0, 0, 0
	for i, doms := range bootRegions() {
		for j, first := range links {
			for n := range links {
				p := impl.BootPlan{Bits: 9 + (i+j+n)%4, Doms: doms, Links: []impl.BootLink{first, links[n], links[(n+4)%len(links)]}[:1+n%3]}
				if !checkBoot(t, p) {
					others++
					continue
				}
				oks++
				parts := wantParts(p)
				for place, part := range parts[1:] {
					if part.addr == parts[place].end() {
						tights++
					} else {
						gaps++
					}
				}
			}
		}
	}
	if oks < 4000 || others < 1000 || gaps < 1000 || tights < 1000 {
		t.Error("the plans are not as they were meant", oks, others, gaps, tights)
	}
}

// Each part lies at the first multiple of its size: nothing that would fit lies unused ahead of it.
func TestBootFirstMultiple(t *testing.T) {
	cases := []struct {
		doms  []impl.BootDom
		links []impl.BootLink
		addrs []int
	}{
		{[]impl.BootDom{{Bits: 5}}, nil, []int{128, 160, 192}},
		{[]impl.BootDom{{Bits: 6}}, nil, []int{128, 160, 192}},
		{[]impl.BootDom{{Bits: 7}}, nil, []int{128, 160, 256}},
		{[]impl.BootDom{{Bits: 8}}, nil, []int{128, 160, 256}},
		{[]impl.BootDom{{Bits: 5}, {Bits: 5}, {Bits: 5}}, nil, []int{128, 160, 192, 224, 256, 288, 320, 352, 384}},
		{[]impl.BootDom{{Bits: 5}, {Bits: 6}}, nil, []int{128, 160, 192, 224, 256, 320}},
		{[]impl.BootDom{{Bits: 5}, {Bits: 8}}, nil, []int{128, 160, 192, 224, 256, 512}},
		{[]impl.BootDom{{Bits: 7}, {Bits: 7}}, nil, []int{128, 160, 256, 384, 416, 512}},
		{[]impl.BootDom{{Bits: 8}, {Bits: 8}, {Bits: 8}}, nil, []int{128, 160, 256, 512, 544, 768, 1024, 1056, 1280}},
		{[]impl.BootDom{{Bits: 5}}, []impl.BootLink{{Kind: 6, Bits: 0}, {Kind: 6, Bits: 0}, {Kind: 4}, {Kind: 5}, {Kind: 6, Bits: 1}, {Kind: 6, Bits: 6}}, []int{128, 160, 192, 224, 225, 228, 232, 236, 256}},
		{[]impl.BootDom{{Bits: 5}}, []impl.BootLink{{Kind: 6, Bits: 5}, {Kind: 6, Bits: 6}, {Kind: 6, Bits: 0}, {Kind: 6, Bits: 2}, {Kind: 6, Bits: 3}, {Kind: 6, Bits: 4}}, []int{128, 160, 192, 224, 256, 320, 324, 328, 336}},
	}
	for _, c := range cases {
		p := impl.BootPlan{Bits: 12, Doms: c.doms, Links: c.links}
		k, ok := impl.BootMake(p)
		var addrs []int
		for _, orig := range bootOriginals(k) {
			addrs = append(addrs, orig.Addr)
		}
		if !ok || !slices.Equal(addrs, c.addrs) {
			t.Errorf("%v %v, want %v", ok, addrs, c.addrs)
		}
		checkBoot(t, p)
	}
}

// endOfParts is where the last part ends.
func endOfParts(p impl.BootPlan) int {
	parts := wantParts(p)
	return parts[len(parts)-1].end()
}

// plansJustEnd is plans that end with the last word of memory.
func plansJustEnd() []impl.BootPlan {
	doms := func(bits ...int) []impl.BootDom {
		var list []impl.BootDom
		for i, b := range bits {
			list = append(list, impl.BootDom{Prio: i, Bits: b})
		}
		return list
	}
	frames := func(bits ...int) []impl.BootLink {
		var list []impl.BootLink
		for _, b := range bits {
			list = append(list, impl.BootLink{Kind: impl.CapFrame, Bits: b})
		}
		return list
	}
	tail := []impl.BootLink{{Kind: impl.CapEnd}, {Kind: impl.CapNote}}
	return []impl.BootPlan{
		{Bits: 9, Doms: doms(8)},
		{Bits: 9, Doms: doms(5, 7)},
		{Bits: 9, Doms: doms(7, 6)},
		{Bits: 9, Doms: doms(7), Links: frames(6, 6)},
		{Bits: 9, Doms: doms(5), Links: frames(6, 6, 6, 6)},
		{Bits: 9, Doms: doms(5, 5, 5), Links: frames(5, 6)},
		{Bits: 9, Doms: doms(7, 5), Links: append(frames(4, 3), tail...)},
		{Bits: 9, Doms: doms(7, 5), Links: frames(4, 3, 2, 1, 0, 0)},
		{Bits: 10, Doms: doms(8, 8)},
		{Bits: 10, Doms: doms(8, 7, 7)},
		{Bits: 10, Doms: doms(8, 5, 7), Links: frames(6, 6)},
		{Bits: 10, Doms: doms(8, 6, 6), Links: frames(6, 6, 6, 6)},
		{Bits: 10, Doms: doms(8, 6, 6), Links: frames(6, 6, 6, 5, 5)},
	}
}

// Plans that end with the last word of memory, and the same with one part more.
func TestBootJustEnds(t *testing.T) {
	for _, p := range plansJustEnd() {
		size := 1 << p.Bits
		if endOfParts(p) != size || !checkBoot(t, p) {
			t.Fatalf("refused, or does not just end within memory\n%+v", p)
		}
		if last, behind := impl.BootLabel(p, size-1), impl.BootLabel(p, size); last != len(p.Doms)+len(p.Links) || behind != 0 {
			t.Errorf("labels %d, %d at the end\n%+v", last, behind, p)
		}
		for _, l := range bootLinks() {
			more := planCopy(p)
			more.Links = append(more.Links, l)
			refusedPlan(t, fmt.Sprint("one link more ", l), more)
			more.Bits++
			if checkBoot(t, more) != (len(more.Links) <= 6) {
				t.Error("one link more in twice the memory", more)
			}
		}
		for bits := 5; bits <= 8 && len(p.Doms) < 3; bits++ {
			more := planCopy(p)
			more.Doms = append(more.Doms, impl.BootDom{Bits: bits})
			refusedPlan(t, "one domain more", more)
		}
		less := planCopy(p)
		less.Bits--
		refusedPlan(t, "half the memory", less)
	}
}

// One word is left, so a frame of one word can be laid there, and nothing else.
func TestBootLastWord(t *testing.T) {
	for _, l := range bootLinks() {
		p := impl.BootPlan{Bits: 9, Doms: []impl.BootDom{{Bits: 7}, {Bits: 5}}}
		for _, bits := range []int{4, 3, 2, 1, 0} {
			p.Links = append(p.Links, impl.BootLink{Kind: impl.CapFrame, Bits: bits})
		}
		if endOfParts(p) != 511 || !checkBoot(t, p) || impl.BootLabel(p, 510) != 7 || impl.BootLabel(p, 511) != 0 {
			t.Fatal("one word is left", endOfParts(p))
		}
		p.Links = append(p.Links, l)
		one := l.Kind == impl.CapFrame && l.Bits == 0
		if checkBoot(t, p) != one || one && impl.BootLabel(p, 511) != 8 {
			t.Error("in the last word", l)
		}
	}
}

// No plan needs more than 1920 words, so memory of 11 or 12 bits has room for all that a plan may have; one part more is one too many.
func TestBootGreatest(t *testing.T) {
	most := 0
	for _, doms := range bootRegions() {
		for n := range 7 {
			for _, l := range bootLinks() {
				most = max(most, endOfParts(impl.BootPlan{Doms: doms, Links: slices.Repeat([]impl.BootLink{l}, n)}))
			}
		}
	}
	if most != 1920 || endOfParts(planGreatest(11)) != 1920 {
		t.Error(most)
	}
	for _, bits := range []int{11, 12} {
		p := planGreatest(bits)
		if !checkBoot(t, p) || impl.BootLabel(p, 1919) != 9 || impl.BootLabel(p, 1920) != 0 || impl.BootLabel(p, 1<<bits-1) != 0 {
			t.Error("the greatest plan", bits)
		}
		for _, l := range bootLinks() {
			more := planCopy(p)
			more.Links = append(more.Links, l)
			refusedPlan(t, "one link more", more)
		}
		more := planCopy(p)
		more.Doms = append(more.Doms, impl.BootDom{Bits: 5})
		refusedPlan(t, "one domain more", more)
	}
	for bits := 9; bits <= 10; bits++ {
		refusedPlan(t, "the greatest plan in less memory", planGreatest(bits))
	}
}

// Threads of each priority, alone and together.
func TestBootPriorities(t *testing.T) {
	for a := range 8 {
		for b := range 8 {
			for c := range 8 {
				doms := []impl.BootDom{{Prio: a, Max: c, Bits: 5}, {Prio: b, Max: a, Bits: 6}, {Prio: c, Max: b, Bits: 5}}
				for n := 1; n <= 3; n++ {
					p := impl.BootPlan{Bits: 10, Doms: doms[:n]}
					if !checkBoot(t, p) {
						t.Fatal("refused", p)
					}
					k, _ := impl.BootMake(p)
					first := 0
					for i, d := range p.Doms {
						if d.Prio > p.Doms[first].Prio {
							first = i
						}
					}
					if got := impl.KernCur(k); got != k.Threads[first].At {
						t.Fatal("runs", got, p)
					}
				}
			}
		}
	}
}

// All rights of each kind, with badges from the least to the greatest.
func TestBootRights(t *testing.T) {
	for kind := impl.CapEnd; kind <= impl.CapFrame; kind++ {
		for rights := -9; rights <= 20; rights++ {
			for _, badge := range append([]int{0, 1, 9, 255, 256, 32768, 65534, 65535, 65536, 65537}, farInts...) {
				p := planOne()
				p.Links = []impl.BootLink{{Kind: kind, To: []impl.BootTo{{Rights: rights, Badge: badge}}}}
				want := within(rights, 0, impl.CapMax(kind)) && (badge == 0 || kind != impl.CapFrame && within(badge, 1, 65535))
				if got := impl.BootOk(p); got != want {
					t.Fatalf("kind %d with rights %d and badge %d: %v", kind, rights, badge, got)
				}
				if !want {
					refusedPlan(t, fmt.Sprint("rights and badge ", kind, rights, badge), p)
					continue
				}
				k, _ := impl.BootMake(p)
				c, ok := impl.KernCap(k, 140)
				if !ok || c != (impl.Cap{Kind: kind, Addr: 256, Rights: rights, Badge: badge}) {
					t.Fatalf("kind %d with rights %d and badge %d: %v %v", kind, rights, badge, ok, c)
				}
			}
		}
	}
}

// namedBy is a plan of three domains and so many links of which each To is one domain, in turns.
func namedBy(links int, doms ...int) impl.BootPlan {
	p := impl.BootPlan{Bits: 11, Doms: []impl.BootDom{{Bits: 5}, {Bits: 5}, {Bits: 5}}}
	for i := range links {
		l := impl.BootLink{Kind: impl.CapEnd + i%3}
		for j, dom := range doms {
			if j%links == i {
				l.To = append(l.To, impl.BootTo{Dom: dom, Rights: 1 + j%3})
			}
		}
		p.Links = append(p.Links, l)
	}
	return p
}

// A domain gets five capabilities in all, however they are spread over the links.
func TestBootNamed(t *testing.T) {
	for links := 1; links <= 6; links++ {
		for dom := range 3 {
			for times := range 9 {
				p := namedBy(links, slices.Repeat([]int{dom}, times)...)
				if checkBoot(t, p) != (times <= 5) {
					t.Fatal("named", times, "times in", links, "links")
				}
				if times == 5 {
					checkPromise10(t, p)
				}
			}
			full := append(slices.Repeat([]int{0, 1, 2}, 5), dom)
			if !checkBoot(t, namedBy(links, full[:15]...)) || checkBoot(t, namedBy(links, full...)) {
				t.Error("each named five times, and one of them once more", links, dom)
			}
		}
	}
	// Sixteen of To in one link can be no plan, whoever they are.
	for _, kind := range []int{impl.CapEnd, impl.CapNote, impl.CapFrame} {
		p := planCrowded(kind, 3)
		if len(p.Links[0].To) != 15 || !checkBoot(t, p) {
			t.Error("fifteen of To", kind)
		}
		for dom := -1; dom <= 3; dom++ {
			more := planCopy(p)
			more.Links[0].To = append(more.Links[0].To, impl.BootTo{Dom: dom})
			refusedPlan(t, "sixteen of To", more)
		}
	}
}

// All ways in which up to five capabilities of two links can be given to three domains.
func TestBootOrders(t *testing.T) {
	for size := range 6 {
		most := int(math.Pow(3, float64(size)))
		for n := range most {
			var doms []int
			for rest := n; len(doms) < size; rest /= 3 {
				doms = append(doms, rest%3)
			}
			p := namedBy(2, doms...)
			if !checkBoot(t, p) {
				t.Fatal("refused", doms)
			}
			checkPromise10(t, p)
		}
	}
}

// wrongPoint is one number of a plan, with values of it that may be and such that may not.
type wrongPoint struct {
	name  string
	at    func(p *impl.BootPlan) *int
	right []int
	wrong []int
}

func wrongPoints() []wrongPoint {
	points := []wrongPoint{{"Bits", func(p *impl.BootPlan) *int { return &p.Bits }, []int{11, 12}, []int{0, 8, 13, 32, 64, 73}}}
	for i := range 3 {
		points = append(points,
			wrongPoint{"Prio", func(p *impl.BootPlan) *int { return &p.Doms[i].Prio }, []int{0, 7}, []int{8, 9}},
			wrongPoint{"Max", func(p *impl.BootPlan) *int { return &p.Doms[i].Max }, []int{0, 7}, []int{8, 9}},
			wrongPoint{"Bits of a domain", func(p *impl.BootPlan) *int { return &p.Doms[i].Bits }, []int{5, 6, 7, 8}, []int{0, 2, 4, 9, 11, 12, 13}})
	}
	kinds := planFull().Links
	for i, l := range kinds {
		kind := func(p *impl.BootPlan) *int { return &p.Links[i].Kind }
		bits := func(p *impl.BootPlan) *int { return &p.Links[i].Bits }
		points = append(points, wrongPoint{"Kind", kind, []int{l.Kind}, []int{0, 1, 2, 3, 7, 8}})
		if l.Kind == impl.CapFrame {
			points = append(points, wrongPoint{"Bits of a frame", bits, []int{0, 1, 2, 3, 4, 5, 6}, []int{7, 8, 12}})
		} else {
			points = append(points, wrongPoint{"Bits of a link", bits, []int{0}, []int{1, 2, 3, 6, 7}})
		}
		for j := range l.To {
			most := impl.CapMax(l.Kind)
			rights := func(p *impl.BootPlan) *int { return &p.Links[i].To[j].Rights }
			badge := func(p *impl.BootPlan) *int { return &p.Links[i].To[j].Badge }
			points = append(points,
				wrongPoint{"Dom", func(p *impl.BootPlan) *int { return &p.Links[i].To[j].Dom }, []int{l.To[j].Dom}, []int{3, 4}},
				wrongPoint{"Rights", rights, []int{0, most}, []int{most + 1, most + 2, 8, 16}})
			if l.Kind == impl.CapFrame {
				points = append(points, wrongPoint{"Badge of a frame", badge, []int{0}, []int{1, 65535}})
			} else {
				points = append(points, wrongPoint{"Badge", badge, []int{0, 1, 65535}, []int{65536}})
			}
		}
	}
	return points
}

// Plans in which one number alone is not as it should be.
func TestBootOneWrong(t *testing.T) {
	for _, c := range wrongPoints() {
		p := planFull()
		number := c.at(&p)
		for _, *number = range c.right {
			if !checkBoot(t, p) {
				t.Fatal(c.name, *number, "is refused")
			}
		}
		for _, *number = range append(c.wrong, farInts...) {
			refusedPlan(t, fmt.Sprint(c.name, " ", *number), p)
		}
	}
}

// Lists that are too short or too long.
func TestBootLists(t *testing.T) {
	for doms := range 6 {
		for links := range 9 {
			p := impl.BootPlan{Bits: 12, Doms: slices.Repeat([]impl.BootDom{{Bits: 5}}, doms), Links: slices.Repeat([]impl.BootLink{{Kind: impl.CapNote}}, links)}
			if checkBoot(t, p) != (within(doms, 1, 3) && links <= 6) {
				t.Error(doms, "domains and", links, "links")
			}
		}
	}
	for doms := 1; doms <= 3; doms++ {
		for dom := -1; dom <= 4; dom++ {
			p := namedBy(1, dom)
			p.Doms = p.Doms[:doms]
			if checkBoot(t, p) != within(dom, 0, doms-1) {
				t.Error("domain", dom, "of", doms)
			}
		}
	}
	const many = 200000
	refusedPlan(t, "many domains", impl.BootPlan{Bits: 12, Doms: slices.Repeat([]impl.BootDom{{Bits: 5}}, many)})
	refusedPlan(t, "many links", impl.BootPlan{Bits: 12, Doms: []impl.BootDom{{Bits: 5}}, Links: slices.Repeat([]impl.BootLink{{Kind: impl.CapEnd}}, many)})
	refusedPlan(t, "many of To", namedBy(1, slices.Repeat([]int{0, 1, 2, 7}, many)...))
	refusedPlan(t, "nothing", impl.BootPlan{})
}

// Nil lists and empty ones are the same plan.
func TestBootEmptyLists(t *testing.T) {
	a := planOne()
	a.Links = []impl.BootLink{{Kind: impl.CapEnd}, {Kind: impl.CapFrame}}
	b := planCopy(a)
	b.Links[0].To, b.Links[1].To = []impl.BootTo{}, []impl.BootTo{}
	none := planOne()
	none.Links = []impl.BootLink{}
	for _, p := range []impl.BootPlan{a, b, none} {
		if !checkBoot(t, p) {
			t.Error("refused", p)
		}
		checkPromise9(t, p)
		checkPromise10(t, p)
	}
}

func TestBootEachChange(t *testing.T) {
	numbers := []int{math.MinInt, -1, 0, 1, 2, 3, 4, 5, 6, 7, 8, 9, 10, 11, 12, 13, 65535, 65536, math.MaxInt}
	oks, others := 0, 0
	for _, p := range []impl.BootPlan{planOne(), planFull(), planCrowded(impl.CapEnd, 3), planSpread(impl.CapFrame, 2)} {
		c := planCopy(p)
		root := reflect.ValueOf(&c).Elem()
		change := func(others func(v reflect.Value) []reflect.Value, tell func()) func(path string, v reflect.Value) {
			return func(path string, v reflect.Value) {
				old := reflect.New(v.Type()).Elem()
				old.Set(v)
				for _, other := range others(v) {
					v.Set(other)
					tell()
				}
				v.Set(old)
			}
		}
		look := func() {
			if checkBoot(t, c) {
				oks++
			} else {
				others++
			}
		}
		eachLeaf(root, "", change(func(v reflect.Value) []reflect.Value { return otherValues(v, numbers) }, look))
		eachList(root, "", change(changedLists, look))
	}
	if oks < 300 || others < 1000 {
		t.Error("the changes are not as they were meant", oks, others)
	}
}

func TestBootAny(t *testing.T) {
	r := rand.New(rand.NewSource(16))
	oks := 0
	for i := range 3000 {
		p := anyPlan(r)
		if !checkBoot(t, p) {
			continue
		}
		oks++
		checkPromise10(t, p)
		if i%40 == 0 {
			checkPromise9(t, p)
		}
	}
	if oks < 1000 || oks > 2500 {
		t.Error("the plans are not as they were meant", oks)
	}
	for range 3000 {
		checkBoot(t, wildPlan(r))
	}
}

// sparedPlan is a plan whose lists all have room behind their ends.
func sparedPlan(p impl.BootPlan) impl.BootPlan {
	c := planCopy(p)
	for i := range c.Links {
		c.Links[i].To = spared(c.Links[i].To, impl.BootTo{Dom: -7})
	}
	c.Doms = spared(c.Doms, impl.BootDom{Prio: -7})
	c.Links = spared(c.Links, impl.BootLink{Kind: -7})
	return c
}

// wholePlan is a plan with what stands behind the ends of its lists.
func wholePlan(p impl.BootPlan) impl.BootPlan {
	c := p
	c.Doms = slices.Clone(p.Doms[:cap(p.Doms)])
	c.Links = slices.Clone(p.Links[:cap(p.Links)])
	for i := range c.Links {
		c.Links[i].To = slices.Clone(c.Links[i].To[:cap(c.Links[i].To)])
	}
	return c
}

func TestBootArgumentsStay(t *testing.T) {
	r := rand.New(rand.NewSource(26))
	plans := bootPlans()
	for range 200 {
		plans = append(plans, anyPlan(r), okPlan(r), wildPlan(r))
	}
	for _, p := range plans {
		a := sparedPlan(p)
		whole := wholePlan(a)
		ok := impl.BootOk(a)
		k, made := impl.BootMake(a)
		labels := impl.BootLabels(a)
		for _, addr := range []int{-1, 0, 128, 200, 300, 700, 4096} {
			if impl.BootLabel(a, addr) != impl.BootLabel(p, addr) {
				t.Fatalf("what stands behind the end of a list counts\n%+v", p)
			}
		}
		if !reflect.DeepEqual(wholePlan(a), whole) {
			t.Fatalf("an argument was written into\n%+v", p)
		}
		again, madeAgain := impl.BootMake(p)
		if ok != impl.BootOk(p) || made != madeAgain || labels != impl.BootLabels(p) || !wantKernSame(k, again) {
			t.Fatalf("two answers of the same plan\n%+v", p)
		}
	}
}

// Answers are new memory, with their spare room: they share none with the plan or another answer, and no two of their lists share any.
func TestBootAnswersStay(t *testing.T) {
	r := rand.New(rand.NewSource(36))
	plans := bootPlans()
	for range 50 {
		plans = append(plans, okPlan(r))
	}
	for _, p := range plans {
		k, _ := impl.BootMake(p)
		other, _ := impl.BootMake(p)
		spans := memoryOf(reflect.ValueOf(&k).Elem())
		spans = append(spans, memoryOf(reflect.ValueOf(&other).Elem())...)
		spans = append(spans, memoryOf(reflect.ValueOf(&p).Elem())...)
		for i, a := range spans {
			for _, b := range spans[:i] {
				if a[0] < b[1] && b[0] < a[1] {
					t.Fatalf("lists share memory\n%+v", p)
				}
			}
		}
		want, _ := wantBootMake(p)
		eachLeaf(reflect.ValueOf(&p).Elem(), "", func(path string, leaf reflect.Value) { leaf.SetInt(77) })
		eachLeaf(reflect.ValueOf(&other).Elem(), "", func(path string, leaf reflect.Value) { leaf.SetZero() })
		if !wantKernSame(k, want) {
			t.Fatalf("an answer changed with its plan or with another one\n%+v", want)
		}
	}
}
