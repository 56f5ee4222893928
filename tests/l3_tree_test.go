package tests

import (
	"math"
	"math/rand"
	"slices"
	"testing"

	"loop.example/donjon/impl"
)

var treeCap = impl.Cap{Kind: impl.CapEnd, Addr: 128, Rights: 7}

// wantTreeOk holds each slot against all slots ahead of it.
func wantTreeOk(list []impl.TreeSlot) bool {
	if len(list) > 300 {
		return false
	}
	for i, s := range list {
		if s.At < 64 || s.At >= 4096 || s.At%4 != 0 || !wantCapOk(s.Cap) || s.Depth < 0 || s.Depth > 12 {
			return false
		}
		if i == 0 && s.Depth != 0 || i > 0 && s.Depth > list[i-1].Depth+1 {
			return false
		}
		for _, other := range list[:i] {
			if other.At == s.At {
				return false
			}
		}
	}
	return true
}

func wantTreePlace(list []impl.TreeSlot, i int) bool {
	return wantTreeOk(list) && i >= 0 && i < len(list)
}

func wantTreeFind(list []impl.TreeSlot, at int) int {
	for i, s := range list {
		if wantTreeOk(list) && s.At == at {
			return i
		}
	}
	return -1
}

func wantTreeEnd(list []impl.TreeSlot, i int) int {
	if !wantTreePlace(list, i) {
		return -1
	}
	end := i + 1
	for end < len(list) && list[end].Depth > list[i].Depth {
		end++
	}
	return end
}

func wantTreeUp(list []impl.TreeSlot, i int) int {
	if !wantTreePlace(list, i) {
		return -1
	}
	up := i - 1
	for up >= 0 && list[up].Depth >= list[i].Depth {
		up--
	}
	return up
}

func wantTreeLeaf(list []impl.TreeSlot, i int) int {
	if !wantTreePlace(list, i) {
		return -1
	}
	if wantTreeEnd(list, i) == i+1 {
		return i
	}
	return wantTreeLeaf(list, i+1)
}

func wantTreeAbove(list []impl.TreeSlot, i int, k int) bool {
	if !wantTreePlace(list, i) || !wantTreePlace(list, k) {
		return false
	}
	return i == k || wantTreeAbove(list, i, wantTreeUp(list, k))
}

func wantTreePut(list []impl.TreeSlot, i int, s impl.TreeSlot) ([]impl.TreeSlot, bool) {
	if !wantTreeOk(list) || i != -1 && !wantTreePlace(list, i) {
		return nil, false
	}
	var out []impl.TreeSlot
	for k, other := range list {
		out = append(out, other)
		if k == i {
			out = append(out, impl.TreeSlot{At: s.At, Cap: s.Cap, Depth: other.Depth + 1})
		}
	}
	if i == -1 {
		out = append(out, impl.TreeSlot{At: s.At, Cap: s.Cap})
	}
	if !wantTreeOk(out) {
		return nil, false
	}
	return out, true
}

func wantTreeCut(list []impl.TreeSlot, i int) ([]impl.TreeSlot, bool) {
	if !wantTreePlace(list, i) || wantTreeEnd(list, i) != i+1 {
		return nil, false
	}
	var out []impl.TreeSlot
	for k, other := range list {
		if k != i {
			out = append(out, other)
		}
	}
	return out, true
}

// sameTree takes the empty list and the nil list as one.
func sameTree(a []impl.TreeSlot, b []impl.TreeSlot) bool { return slices.Equal(a, b) }

// treeOf is slots with these depths. Their addresses do not rise with their places, so that none is told by the other; no two are alike, and 4092 is none of them.
func treeOf(depths ...int) []impl.TreeSlot {
	list := make([]impl.TreeSlot, len(depths))
	for i, depth := range depths {
		list[i] = impl.TreeSlot{At: 64 + 4*((11*i+5)%1007), Cap: treeCap, Depth: depth}
		list[i].Cap.Badge = i
	}
	return list
}

// treeNew is a slot at an address that no slot of treeOf has, with a Depth that is never the right one.
func treeNew() impl.TreeSlot {
	return impl.TreeSlot{At: 4092, Cap: impl.Cap{Kind: impl.CapNote, Addr: 132, Rights: 3}, Depth: -9}
}

// chainDepths is one slot of each depth from 0 on.
func chainDepths(slots int) []int {
	depths := make([]int, slots)
	for i := range depths {
		depths[i] = i
	}
	return depths
}

// allDepths hands out each list of so many depths, from least to most.
func allDepths(slots int, least int, most int, tell func(depths []int)) {
	depths := make([]int, slots)
	var fill func(i int)
	fill = func(i int) {
		if i == slots {
			tell(depths)
			return
		}
		for depth := least; depth <= most; depth++ {
			depths[i] = depth
			fill(i + 1)
		}
	}
	fill(0)
}

// allTrees hands out each tree of so many slots, by its depths.
func allTrees(slots int, tell func(list []impl.TreeSlot)) {
	depths := make([]int, slots)
	var fill func(i int, most int)
	fill = func(i int, most int) {
		if i == slots {
			tell(treeOf(depths...))
			return
		}
		for depth := 0; depth <= most; depth++ {
			depths[i] = depth
			fill(i+1, depth+1)
		}
	}
	fill(0, 0)
}

// anyTree is a tree that often comes to the greatest depth.
func anyTree(r *rand.Rand, slots int) []impl.TreeSlot {
	depths := make([]int, slots)
	for i := 1; i < slots; i++ {
		depths[i] = min(12, depths[i-1]+1)
		if r.Intn(4) == 0 {
			depths[i] = r.Intn(depths[i] + 1)
		}
	}
	list := treeOf(depths...)
	for i, at := range r.Perm(1007)[:slots] {
		list[i].At = 64 + 4*at
	}
	return list
}

// treePlaces has all places of a list, and such that are none.
func treePlaces(slots int) []int {
	places := []int{math.MinInt, math.MinInt + 1, -301, -3, -2, -1}
	for i := 0; i <= slots+1; i++ {
		places = append(places, i)
	}
	return append(places, 299, 300, 301, math.MaxInt-1, math.MaxInt)
}

// checkPlace holds what is asked of one place against the document's words.
func checkPlace(t *testing.T, list []impl.TreeSlot, i int) {
	t.Helper()
	if got, want := impl.TreeEnd(list, i), wantTreeEnd(list, i); got != want {
		t.Fatalf("TreeEnd(%v, %d) = %d, not %d", list, i, got, want)
	}
	if got, want := impl.TreeUp(list, i), wantTreeUp(list, i); got != want {
		t.Fatalf("TreeUp(%v, %d) = %d, not %d", list, i, got, want)
	}
	if got, want := impl.TreeLeaf(list, i), wantTreeLeaf(list, i); got != want {
		t.Fatalf("TreeLeaf(%v, %d) = %d, not %d", list, i, got, want)
	}
}

func checkAbove(t *testing.T, list []impl.TreeSlot, i int, k int) {
	t.Helper()
	if got, want := impl.TreeAbove(list, i, k), wantTreeAbove(list, i, k); got != want {
		t.Fatalf("TreeAbove(%v, %d, %d) = %v", list, i, k, got)
	}
}

func checkFind(t *testing.T, list []impl.TreeSlot, at int) {
	t.Helper()
	if got, want := impl.TreeFind(list, at), wantTreeFind(list, at); got != want {
		t.Fatalf("TreeFind(%v, %d) = %d, not %d", list, at, got, want)
	}
}

func checkPut(t *testing.T, list []impl.TreeSlot, i int, s impl.TreeSlot) {
	t.Helper()
	want, wantOk := wantTreePut(list, i, s)
	got, ok := impl.TreePut(list, i, s)
	if ok != wantOk || !sameTree(got, want) {
		t.Fatalf("TreePut(%v, %d, %v) = %v, %v, not %v, %v", list, i, s, got, ok, want, wantOk)
	}
}

func checkCut(t *testing.T, list []impl.TreeSlot, i int) {
	t.Helper()
	want, wantOk := wantTreeCut(list, i)
	got, ok := impl.TreeCut(list, i)
	if ok != wantOk || !sameTree(got, want) {
		t.Fatalf("TreeCut(%v, %d) = %v, %v, not %v, %v", list, i, got, ok, want, wantOk)
	}
}

// checkTree holds all eight functions of a list, a tree or not, against the document's words.
func checkTree(t *testing.T, list []impl.TreeSlot) {
	t.Helper()
	if got, want := impl.TreeOk(list), wantTreeOk(list); got != want {
		t.Fatalf("TreeOk(%v) = %v", list, got)
	}
	for _, i := range treePlaces(len(list)) {
		checkPlace(t, list, i)
		checkPut(t, list, i, treeNew())
		checkCut(t, list, i)
		for _, k := range treePlaces(len(list)) {
			checkAbove(t, list, i, k)
		}
	}
	for _, s := range list {
		checkFind(t, list, s.At)
	}
	for _, at := range []int{0, 4, 64, 66, 4092, 4096, -1, math.MinInt, math.MaxInt} {
		checkFind(t, list, at)
	}
}

// checkNoTree asks for the fixed answers, at all arguments there are.
func checkNoTree(t *testing.T, list []impl.TreeSlot) {
	t.Helper()
	if impl.TreeOk(list) {
		t.Fatalf("TreeOk(%v)", list)
	}
	for _, i := range treePlaces(min(len(list), 8)) {
		if end, up, leaf := impl.TreeEnd(list, i), impl.TreeUp(list, i), impl.TreeLeaf(list, i); end != -1 || up != -1 || leaf != -1 {
			t.Fatalf("end, up and leaf of %d in %v: %d, %d, %d", i, list, end, up, leaf)
		}
		if impl.TreeAbove(list, i, i) || impl.TreeAbove(list, 0, i) || impl.TreeAbove(list, i, 0) {
			t.Fatalf("TreeAbove with %d in %v", i, list)
		}
		if out, ok := impl.TreePut(list, i, treeNew()); out != nil || ok {
			t.Fatalf("TreePut(%v, %d) = %v, %v", list, i, out, ok)
		}
		if out, ok := impl.TreeCut(list, i); out != nil || ok {
			t.Fatalf("TreeCut(%v, %d) = %v, %v", list, i, out, ok)
		}
	}
	for _, s := range list {
		if got := impl.TreeFind(list, s.At); got != -1 {
			t.Fatalf("TreeFind(%v, %d) = %d", list, s.At, got)
		}
	}
}

func TestTreeConstants(t *testing.T) {
	if impl.TreeMaxSlots != 300 || impl.TreeMaxDepth != 12 {
		t.Error(impl.TreeMaxSlots, impl.TreeMaxDepth)
	}
}

// A tree whose answers are written out: a slot with none, with one and with several that came of it, and slots that came of those.
func TestTreeWrittenOut(t *testing.T) {
	list := treeOf(0, 1, 2, 2, 3, 1, 0, 1, 0)
	rows := []struct{ end, up, leaf int }{
		{6, -1, 2}, {5, 0, 2}, {3, 1, 2}, {5, 1, 4}, {5, 3, 4}, {6, 0, 5}, {8, -1, 7}, {8, 6, 7}, {9, -1, 8},
	}
	for i, row := range rows {
		if end, up, leaf := impl.TreeEnd(list, i), impl.TreeUp(list, i), impl.TreeLeaf(list, i); end != row.end || up != row.up || leaf != row.leaf {
			t.Errorf("%d: %d, %d, %d, not %v", i, end, up, leaf, row)
		}
		if got := impl.TreeFind(list, list[i].At); got != i {
			t.Errorf("TreeFind of slot %d: %d", i, got)
		}
	}
	above := [][]int{{0}, {0, 1}, {0, 1, 2}, {0, 1, 3}, {0, 1, 3, 4}, {0, 5}, {6}, {6, 7}, {8}}
	for k := range list {
		for i := range list {
			if got := impl.TreeAbove(list, i, k); got != slices.Contains(above[k], i) {
				t.Errorf("TreeAbove of %d and %d: %v", i, k, got)
			}
		}
	}
}

func TestTreeEmpty(t *testing.T) {
	for _, list := range [][]impl.TreeSlot{nil, {}} {
		if !impl.TreeOk(list) {
			t.Errorf("TreeOk(%#v)", list)
		}
		checkTree(t, list)
		out, ok := impl.TreePut(list, -1, treeNew())
		if !ok || len(out) != 1 || out[0].At != 4092 || out[0].Depth != 0 {
			t.Errorf("TreePut(%#v) = %v, %v", list, out, ok)
		}
	}
}

func TestTreeAllSmall(t *testing.T) {
	for slots := 1; slots <= 6; slots++ {
		trees := 0
		allTrees(slots, func(list []impl.TreeSlot) {
			trees++
			checkTree(t, list)
		})
		// As many as there are ways to nest pairs of brackets.
		if want := []int{0, 1, 2, 5, 14, 42, 132}[slots]; trees != want {
			t.Errorf("%d trees of %d slots", trees, slots)
		}
	}
}

func TestTreeAllDepths(t *testing.T) {
	for slots := 1; slots <= 4; slots++ {
		allDepths(slots, -1, 3, func(depths []int) {
			list := treeOf(depths...)
			checkTree(t, list)
			if !wantTreeOk(list) {
				checkNoTree(t, list)
			}
		})
	}
}

func TestTreeAny(t *testing.T) {
	r := rand.New(rand.NewSource(3))
	deepest := 0
	for range 60 {
		list := anyTree(r, 1+r.Intn(40))
		if !wantTreeOk(list) {
			t.Fatal(list)
		}
		for _, s := range list {
			deepest = max(deepest, s.Depth)
		}
		checkTree(t, list)
	}
	if deepest != 12 {
		t.Errorf("no tree of the greatest depth, but %d", deepest)
	}
}

func TestTreeAt(t *testing.T) {
	rows := []struct {
		at int
		ok bool
	}{
		{60, false}, {61, false}, {63, false}, {64, true}, {65, false}, {66, false}, {67, false}, {68, true},
		{128, true}, {2048, true}, {4088, true}, {4091, false}, {4092, true}, {4093, false}, {4095, false}, {4096, false}, {4100, false},
		{0, false}, {4, false}, {-4, false}, {-64, false}, {1<<32 + 64, false}, {math.MaxInt, false}, {math.MaxInt - 3, false}, {math.MinInt, false},
	}
	for _, row := range rows {
		s := impl.TreeSlot{At: row.at, Cap: treeCap}
		if got := impl.TreeOk([]impl.TreeSlot{s}); got != row.ok {
			t.Errorf("TreeOk with At %d: %v", row.at, got)
		}
		checkTree(t, []impl.TreeSlot{s})
		// The same At behind another slot, and put there.
		first := impl.TreeSlot{At: 72, Cap: treeCap}
		checkTree(t, []impl.TreeSlot{first, s})
		for _, i := range []int{-1, 0} {
			if out, ok := impl.TreePut([]impl.TreeSlot{first}, i, s); ok != row.ok || !ok && out != nil {
				t.Errorf("TreePut with At %d behind %d: %v, %v", row.at, i, out, ok)
			}
		}
		if !row.ok {
			checkNoTree(t, []impl.TreeSlot{s})
			checkNoTree(t, []impl.TreeSlot{first, s})
			checkNoTree(t, []impl.TreeSlot{s, first})
		}
	}
}

// Each At that a slot may have is found, and no other.
func TestTreeEveryAt(t *testing.T) {
	for at := -8; at <= 4104; at++ {
		list := []impl.TreeSlot{{At: at, Cap: treeCap}}
		want := at >= 64 && at < 4096 && at%4 == 0
		if got := impl.TreeOk(list); got != want {
			t.Errorf("TreeOk with At %d: %v", at, got)
		}
		if got := impl.TreeFind(list, at); got == 0 != want {
			t.Errorf("TreeFind of At %d: %d", at, got)
		}
	}
}

func TestTreeTwoAlike(t *testing.T) {
	for slots := 2; slots <= 5; slots++ {
		for i := range slots {
			for k := range i {
				list := treeOf(chainDepths(slots)...)
				list[i].At = list[k].At
				checkNoTree(t, list)
			}
		}
	}
	list := treeOf(0, 1, 0)
	for _, other := range list {
		for i := -1; i < len(list); i++ {
			s := treeNew()
			s.At = other.At
			if out, ok := impl.TreePut(list, i, s); ok || out != nil {
				t.Errorf("TreePut of At %d behind %d: %v, %v", s.At, i, out, ok)
			}
		}
	}
}

func TestTreeDepths(t *testing.T) {
	rows := []struct {
		depths []int
		ok     bool
	}{
		{[]int{0}, true}, {[]int{1}, false}, {[]int{-1}, false}, {[]int{12}, false}, {[]int{math.MinInt}, false}, {[]int{math.MaxInt}, false},
		{[]int{0, 1}, true}, {[]int{0, 2}, false}, {[]int{0, -1}, false}, {[]int{0, 0, 1}, true}, {[]int{0, 0, 2}, false}, {[]int{0, math.MaxInt}, false},
		{[]int{0, 1, 3}, false}, {[]int{0, 1, 2, 0, 1}, true}, {[]int{0, 1, 2, 0, 2}, false}, {[]int{0, 1, 2, 3, 1, 2}, true},
		{chainDepths(13), true}, {chainDepths(14), false},
		{append(chainDepths(13), 12, 12), true}, {append(chainDepths(13), 13), false}, {append(chainDepths(13), 0), true},
		{append(chainDepths(13), 11, 12), true}, {append(chainDepths(13), 11, 13), false},
	}
	for _, row := range rows {
		list := treeOf(row.depths...)
		if got := impl.TreeOk(list); got != row.ok {
			t.Errorf("TreeOk with depths %v: %v", row.depths, got)
		}
		checkTree(t, list)
		if !row.ok {
			checkNoTree(t, list)
		}
	}
}

// A put behind a slot of depth 12 would make 13, at whatever place.
func TestTreePutTooDeep(t *testing.T) {
	for _, depths := range [][]int{chainDepths(13), append(chainDepths(13), 12), append(chainDepths(13), 3, 4), append([]int{0}, chainDepths(13)...)} {
		list := treeOf(depths...)
		for i, s := range list {
			out, ok := impl.TreePut(list, i, treeNew())
			if want := s.Depth < 12; ok != want || !ok && out != nil {
				t.Errorf("TreePut behind depth %d: %v, %v", s.Depth, out, ok)
			}
			checkPut(t, list, i, treeNew())
		}
		if _, ok := impl.TreePut(list, -1, treeNew()); !ok {
			t.Errorf("TreePut at the end of %v", depths)
		}
	}
}

func TestTreeCaps(t *testing.T) {
	for _, c := range okCaps() {
		list := treeOf(0, 1, 1)
		for i := range list {
			other := slices.Clone(list)
			other[i].Cap = c
			if !impl.TreeOk(other) {
				t.Fatalf("TreeOk with %+v", c)
			}
		}
		s := treeNew()
		s.Cap = c
		out, ok := impl.TreePut(list, 1, s)
		if !ok || out[2].Cap != c {
			t.Fatalf("TreePut of %+v: %v, %v", c, out, ok)
		}
		if got, ok := impl.TreeCut(out, 2); !ok || !sameTree(got, list) {
			t.Fatalf("TreeCut of %+v: %v, %v", c, got, ok)
		}
	}
}

func TestTreeCapsNotOk(t *testing.T) {
	wrong := []impl.Cap{
		{},
		{Kind: 8, Addr: 128},
		{Kind: -1, Addr: 128},
		{Kind: impl.CapEnd, Addr: 129, Rights: 7},
		{Kind: impl.CapEnd, Addr: 4096},
		{Kind: impl.CapEnd, Addr: 128, Rights: 8},
		{Kind: impl.CapEnd, Addr: 128, Badge: 65536},
		{Kind: impl.CapUntyped, Addr: 128, Bits: 7},
		{Kind: impl.CapReply, Addr: 128, Orig: true},
		{Kind: impl.CapNode, Addr: 128, Bits: 6, Orig: true},
	}
	for _, c := range wrong {
		for i := range 3 {
			list := treeOf(0, 1, 1)
			list[i].Cap = c
			checkNoTree(t, list)
		}
		s := treeNew()
		s.Cap = c
		for i := -1; i < 3; i++ {
			if out, ok := impl.TreePut(treeOf(0, 1, 1), i, s); ok || out != nil {
				t.Errorf("TreePut of %+v: %v, %v", c, out, ok)
			}
		}
	}
}

func TestTreeMostSlots(t *testing.T) {
	r := rand.New(rand.NewSource(5))
	most := anyTree(r, 300)
	if !impl.TreeOk(most) {
		t.Fatal("300 slots are no tree")
	}
	for i := range most {
		checkPlace(t, most, i)
		checkFind(t, most, most[i].At)
		checkCut(t, most, i)
		checkAbove(t, most, i, 299)
		checkAbove(t, most, 0, i)
	}
	free := impl.TreeSlot{At: 64, Cap: treeCap}
	for wantTreeFind(most, free.At) != -1 {
		free.At += 4
	}
	for i := -1; i < 300; i++ {
		if out, ok := impl.TreePut(most, i, free); ok || out != nil {
			t.Fatalf("a slot more than 300, behind %d: %v", i, ok)
		}
	}
	checkNoTree(t, append(slices.Clone(most), free))
	checkNoTree(t, append([]impl.TreeSlot{free}, most...))
	checkNoTree(t, make([]impl.TreeSlot, 5000))
	fewer, ok := impl.TreeCut(most, 299)
	if !ok || len(fewer) != 299 {
		t.Fatal("the last of 300 is not cut")
	}
	if out, ok := impl.TreePut(fewer, -1, free); !ok || len(out) != 300 || out[299] != free {
		t.Fatal("no place for slot 300")
	}
}

// The first that came of a slot stands just behind it; the second then stands ahead of the first, and of all that came of it.
func TestTreeFirstAndSecond(t *testing.T) {
	slot := func(at int) impl.TreeSlot { return impl.TreeSlot{At: at, Cap: treeCap, Depth: 5} }
	list := treeOf(0, 0)
	of := list[0].At
	steps := []struct {
		at   int
		want []int
	}{
		{100, []int{list[0].At, 100, list[1].At}},
		{200, []int{list[0].At, 200, 100, list[1].At}},
		{92, []int{list[0].At, 92, 200, 100, list[1].At}},
	}
	for _, step := range steps {
		out, ok := impl.TreePut(list, impl.TreeFind(list, of), slot(step.at))
		if !ok || !slices.Equal(treeAts(out), step.want) {
			t.Fatalf("behind the put of %d: %v, %v", step.at, treeAts(out), ok)
		}
		list = out
	}
	out, ok := impl.TreePut(list, 2, slot(300))
	if !ok || !slices.Equal(treeAts(out), []int{of, 92, 200, 300, 100, list[4].At}) || out[3].Depth != 2 {
		t.Fatalf("one deeper: %v, %v", out, ok)
	}
	out, ok = impl.TreePut(out, 0, slot(400))
	if !ok || !slices.Equal(treeAts(out), []int{of, 400, 92, 200, 300, 100, list[4].At}) || out[1].Depth != 1 || out[4].Depth != 2 {
		t.Fatalf("ahead of all that came: %v, %v", out, ok)
	}
	out, ok = impl.TreePut(out, -1, slot(240))
	if !ok || out[7].At != 240 || out[7].Depth != 0 {
		t.Fatalf("at the end: %v, %v", out, ok)
	}
}

func treeAts(list []impl.TreeSlot) []int {
	ats := []int{}
	for _, s := range list {
		ats = append(ats, s.At)
	}
	return ats
}

func TestTreePutPlaces(t *testing.T) {
	list := treeOf(0, 1, 2, 1, 0)
	for _, i := range []int{math.MinInt, -300, -2, 5, 6, 300, math.MaxInt} {
		if out, ok := impl.TreePut(list, i, treeNew()); ok || out != nil {
			t.Errorf("TreePut behind %d: %v, %v", i, out, ok)
		}
	}
	rows := []struct{ i, place, depth int }{{-1, 5, 0}, {0, 1, 1}, {1, 2, 2}, {2, 3, 3}, {3, 4, 2}, {4, 5, 1}}
	for _, row := range rows {
		out, ok := impl.TreePut(list, row.i, treeNew())
		if !ok || len(out) != 6 || out[row.place].At != 4092 || out[row.place].Depth != row.depth {
			t.Errorf("TreePut behind %d: %v, %v", row.i, out, ok)
		}
	}
}

// Whatever Depth a slot has that is put, the answer is the same.
func TestTreePutAnyDepth(t *testing.T) {
	list := treeOf(0, 1, 2, 1, 0)
	for i := -1; i < len(list); i++ {
		want, wantOk := impl.TreePut(list, i, treeNew())
		for _, depth := range []int{math.MinInt, -1, 0, 1, 2, 3, 4, 12, 13, 65536, math.MaxInt} {
			s := treeNew()
			s.Depth = depth
			if got, ok := impl.TreePut(list, i, s); !wantOk || ok != wantOk || !sameTree(got, want) {
				t.Errorf("TreePut behind %d with Depth %d: %v, %v", i, depth, got, ok)
			}
		}
	}
}

// A list that is no tree stays none, even where a put or a cut would mend it.
func TestTreeMended(t *testing.T) {
	gap := treeOf(0, 2)
	if _, ok := impl.TreePut(gap, 0, treeNew()); ok {
		t.Error("a put that fills a gap")
	}
	for _, depths := range [][]int{{0, 2}, {0, 0, -1}, {0, 13}, {1}} {
		list := treeOf(depths...)
		if out, ok := impl.TreeCut(list, len(list)-1); ok || out != nil {
			t.Errorf("a cut of what is wrong in %v", depths)
		}
	}
	alike := treeOf(0, 0)
	alike[1].At = alike[0].At
	if out, ok := impl.TreeCut(alike, 1); ok || out != nil {
		t.Error("a cut of one of two alike")
	}
	many := treeOf(make([]int, 301)...)
	if out, ok := impl.TreeCut(many, 300); ok || out != nil {
		t.Error("a cut of slot 301")
	}
}

func TestTreeCuts(t *testing.T) {
	list := treeOf(0, 1, 2, 1, 0)
	rows := []struct {
		i  int
		ok bool
	}{{0, false}, {1, false}, {2, true}, {3, true}, {4, true}, {-1, false}, {-2, false}, {5, false}, {math.MinInt, false}, {math.MaxInt, false}}
	for _, row := range rows {
		out, ok := impl.TreeCut(list, row.i)
		if ok != row.ok || !ok && out != nil || ok && !sameTree(out, slices.Delete(slices.Clone(list), row.i, row.i+1)) {
			t.Errorf("TreeCut of %d: %v, %v", row.i, out, ok)
		}
	}
	if out, ok := impl.TreeCut(list[:1], 0); !ok || len(out) != 0 {
		t.Errorf("TreeCut of the only slot: %v, %v", out, ok)
	}
	if out, ok := impl.TreeCut(nil, 0); ok || out != nil {
		t.Errorf("TreeCut of nothing: %v, %v", out, ok)
	}
}

// A tree can be taken down leaf by leaf, whatever the order.
func TestTreeTakenDown(t *testing.T) {
	r := rand.New(rand.NewSource(7))
	for range 40 {
		list := anyTree(r, 60)
		for len(list) > 0 {
			leaf := impl.TreeLeaf(list, r.Intn(len(list)))
			out, ok := impl.TreeCut(list, leaf)
			if !ok || len(out) != len(list)-1 || !wantTreeOk(out) {
				t.Fatalf("TreeCut(%v, %d) = %v, %v", list, leaf, out, ok)
			}
			list = out
		}
	}
}

// cameOf is the At of what each slot came of, by its own At; 0 where that is nothing. It keeps what is on the way down, and asks no function of the program.
func cameOf(list []impl.TreeSlot) map[int]int {
	of := map[int]int{}
	way := []int{0}
	for _, s := range list {
		way = append(way[:s.Depth+1], s.At)
		of[s.At] = way[s.Depth]
	}
	return of
}

// checkPromise4 puts a slot behind each slot and at the end, and cuts it again.
func checkPromise4(t *testing.T, list []impl.TreeSlot) {
	t.Helper()
	before := cameOf(list)
	for i := -1; i < len(list); i++ {
		if i >= 0 && list[i].Depth == 12 {
			continue
		}
		s := treeNew()
		out, ok := impl.TreePut(list, i, s)
		if !ok || len(out) != len(list)+1 || !impl.TreeOk(out) {
			t.Fatalf("TreePut(%v, %d) = %v, %v", list, i, out, ok)
		}
		place := impl.TreeFind(out, s.At)
		if place < 0 || out[place].Cap != s.Cap || impl.TreeEnd(out, place) != place+1 || impl.TreeLeaf(out, place) != place {
			t.Fatalf("something came of what was put: %v, %d", out, place)
		}
		// No slot ahead of where it was put moves, so i names the same slot in both trees.
		if up := impl.TreeUp(out, place); up != i || i >= 0 && out[up].At != list[i].At {
			t.Fatalf("what was put behind %d came of %d: %v", i, up, out)
		}
		after := cameOf(out)
		for _, other := range list {
			if after[other.At] != before[other.At] {
				t.Fatalf("by a put behind %d the slot at %d came of %d, not of %d", i, other.At, after[other.At], before[other.At])
			}
		}
		again, ok := impl.TreeCut(out, place)
		if !ok || !sameTree(again, list) {
			t.Fatalf("cut again: %v, %v, not %v", again, ok, list)
		}
	}
}

func TestTreePromise4(t *testing.T) {
	checkPromise4(t, nil)
	for slots := 1; slots <= 7; slots++ {
		allTrees(slots, func(list []impl.TreeSlot) { checkPromise4(t, list) })
	}
	r := rand.New(rand.NewSource(4))
	for _, slots := range []int{13, 40, 299} {
		checkPromise4(t, anyTree(r, slots))
	}
	checkPromise4(t, treeOf(chainDepths(13)...))
}

// checkPromise5 asks of each two slots whether one came of the other one, in three ways.
func checkPromise5(t *testing.T, list []impl.TreeSlot) {
	t.Helper()
	of := cameOf(list)
	for i := range list {
		end := impl.TreeEnd(list, i)
		for k := range list {
			came := false
			for at := list[k].At; at != 0; at = of[at] {
				came = came || at == list[i].At
			}
			if above := impl.TreeAbove(list, i, k); above != came || came != (i <= k && k < end) {
				t.Fatalf("%d above %d: %v, came of it: %v, end %d, in %v", i, k, above, came, end, list)
			}
		}
	}
}

func TestTreePromise5(t *testing.T) {
	for slots := 1; slots <= 7; slots++ {
		allTrees(slots, func(list []impl.TreeSlot) { checkPromise5(t, list) })
	}
	r := rand.New(rand.NewSource(6))
	for _, slots := range []int{13, 40, 100} {
		checkPromise5(t, anyTree(r, slots))
	}
	checkPromise5(t, treeOf(chainDepths(13)...))
}

// withRoom is a list in the middle of a longer one, with slots ahead of it and behind its end.
func withRoom(list []impl.TreeSlot) ([]impl.TreeSlot, []impl.TreeSlot) {
	whole := append(treeOf(0, 0), list...)
	whole = append(whole, treeOf(7, 7, 7, 7)...)
	return whole, whole[2 : 2+len(list)]
}

// overwrite writes into a list and all room behind it.
func overwrite(list []impl.TreeSlot) {
	list = list[:cap(list)]
	for i := range list {
		list[i] = impl.TreeSlot{At: -1, Depth: -1}
	}
}

// Nothing is written into a list or behind its end, and no answer shares memory with it or with another answer.
func TestTreeMemory(t *testing.T) {
	for _, depths := range [][]int{{}, {0}, {0, 1}, {0, 1, 2, 1, 0}, {0, 2}, {1}} {
		whole, list := withRoom(treeOf(depths...))
		before := slices.Clone(whole)
		for _, i := range treePlaces(len(list)) {
			impl.TreeOk(list)
			impl.TreeFind(list, treeOf(0)[0].At)
			impl.TreeEnd(list, i)
			impl.TreeUp(list, i)
			impl.TreeLeaf(list, i)
			impl.TreeAbove(list, i, 0)
			put, _ := impl.TreePut(list, i, treeNew())
			twice, _ := impl.TreePut(list, i, treeNew())
			cut, _ := impl.TreeCut(list, i)
			other, _ := impl.TreeCut(list, i)
			keepPut, keepCut := slices.Clone(put), slices.Clone(cut)
			overwrite(twice)
			overwrite(other)
			if !sameTree(put, keepPut) || !sameTree(cut, keepCut) {
				t.Fatalf("two answers share memory: depths %v, place %d", depths, i)
			}
			overwrite(put)
			overwrite(cut)
			if !slices.Equal(whole, before) {
				t.Fatalf("a list that was handed in is changed: depths %v, place %d", depths, i)
			}
		}
	}
}

// What is answered stays when the list is changed afterwards.
func TestTreeAnswersStay(t *testing.T) {
	list := treeOf(0, 1, 2, 1, 0)
	put, _ := impl.TreePut(list, 1, treeNew())
	cut, _ := impl.TreeCut(list, 2)
	keepPut, keepCut := slices.Clone(put), slices.Clone(cut)
	overwrite(list)
	if !sameTree(put, keepPut) || !sameTree(cut, keepCut) {
		t.Error("an answer changes with the list")
	}
}
