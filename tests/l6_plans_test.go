package tests

import (
	"math/rand"
	"slices"

	"loop.example/donjon/impl"
)

// planPart is a part of memory, and to whom it belongs.
type planPart struct {
	addr  int
	size  int
	label int
}

func (p planPart) end() int { return p.addr + p.size }

// planCopy is the same plan in other memory.
func planCopy(p impl.BootPlan) impl.BootPlan {
	c := p
	c.Doms = slices.Clone(p.Doms)
	c.Links = slices.Clone(p.Links)
	for i := range c.Links {
		c.Links[i].To = slices.Clone(c.Links[i].To)
	}
	return c
}

// planOne is one domain with nothing that is shared.
func planOne() impl.BootPlan {
	return impl.BootPlan{Bits: 9, Doms: []impl.BootDom{{Prio: 2, Max: 5, Bits: 6}}}
}

// planFull is three domains and six links, with words between some of the parts.
func planFull() impl.BootPlan {
	return impl.BootPlan{
		Bits: 11,
		Doms: []impl.BootDom{{Prio: 3, Max: 7, Bits: 5}, {Prio: 0, Max: 0, Bits: 8}, {Prio: 3, Max: 1, Bits: 7}},
		Links: []impl.BootLink{
			{Kind: impl.CapEnd, To: []impl.BootTo{{Dom: 0, Rights: 7, Badge: 65535}, {Dom: 1}, {Dom: 0, Rights: 2, Badge: 1}}},
			{Kind: impl.CapFrame, To: []impl.BootTo{{Dom: 2, Rights: 3}}},
			{Kind: impl.CapNote},
			{Kind: impl.CapFrame, Bits: 6, To: []impl.BootTo{{Dom: 1, Rights: 1}, {Dom: 0}, {Dom: 2, Rights: 2}}},
			{Kind: impl.CapNote, To: []impl.BootTo{{Dom: 0, Rights: 3, Badge: 65535}, {Dom: 1, Rights: 1, Badge: 9}}},
			{Kind: impl.CapEnd, To: []impl.BootTo{{Dom: 0, Rights: 4}}},
		},
	}
}

// planGreatest is the plan whose parts need more words than those of any other.
func planGreatest(bits int) impl.BootPlan {
	return impl.BootPlan{
		Bits:  bits,
		Doms:  slices.Repeat([]impl.BootDom{{Bits: 8}}, 3),
		Links: slices.Repeat([]impl.BootLink{{Kind: impl.CapFrame, Bits: 6}}, 6),
	}
}

// planCrowded is one link of a kind in which each domain is named so often as it may be.
func planCrowded(kind int, doms int) impl.BootPlan {
	p := impl.BootPlan{Bits: 12, Links: []impl.BootLink{{Kind: kind}}}
	for dom := range doms {
		p.Doms = append(p.Doms, impl.BootDom{Prio: dom, Bits: 5})
	}
	for i := range 5 * doms {
		p.Links[0].To = append(p.Links[0].To, impl.BootTo{Dom: i % doms, Rights: i % (impl.CapMax(kind) + 1)})
	}
	return p
}

// planSpread is six links of a kind in which each domain is named five times in all.
func planSpread(kind int, doms int) impl.BootPlan {
	p := planCrowded(kind, doms)
	all := p.Links[0].To
	p.Links = nil
	for i := range 6 {
		l := impl.BootLink{Kind: kind}
		for j, to := range all {
			if j%6 == i {
				l.To = append(l.To, to)
			}
		}
		p.Links = append(p.Links, l)
	}
	return p
}

func bootPlans() []impl.BootPlan {
	plans := []impl.BootPlan{planOne(), planFull(), planGreatest(11), planGreatest(12)}
	for kind := impl.CapEnd; kind <= impl.CapFrame; kind++ {
		for doms := 1; doms <= 3; doms++ {
			plans = append(plans, planCrowded(kind, doms), planSpread(kind, doms))
		}
	}
	return plans
}

func within(n int, least int, most int) bool { return least <= n && n <= most }

// sharedSize is the words of what is shared; 0, if the bits do not go with the kind.
func sharedSize(kind int, bits int) int {
	switch {
	case (kind == impl.CapEnd || kind == impl.CapNote) && bits == 0:
		return 4
	case kind == impl.CapFrame && within(bits, 0, 6):
		return []int{1, 2, 4, 8, 16, 32, 64}[bits]
	}
	return 0
}

// wantParts goes word by word to the first place for each part; all sizes must be such as may be.
func wantParts(p impl.BootPlan) []planPart {
	var parts []planPart
	next := 128
	lay := func(size int, label int) {
		for next%size != 0 {
			next++
		}
		parts = append(parts, planPart{addr: next, size: size, label: label})
		next += size
	}
	for i, d := range p.Doms {
		lay(32, i+1)
		lay(32, i+1)
		lay([]int{5: 32, 6: 64, 7: 128, 8: 256}[d.Bits], i+1)
	}
	for i, l := range p.Links {
		lay(sharedSize(l.Kind, l.Bits), len(p.Doms)+i+1)
	}
	return parts
}

func wantToOk(p impl.BootPlan, kind int, to impl.BootTo) bool {
	most, badges := 7, 65535
	if kind != impl.CapEnd {
		most = 3
	}
	if kind == impl.CapFrame {
		badges = 0
	}
	return within(to.Dom, 0, len(p.Doms)-1) && within(to.Rights, 0, most) && within(to.Badge, 0, badges)
}

func wantBootOk(p impl.BootPlan) bool {
	if !within(p.Bits, 9, 12) || !within(len(p.Doms), 1, 3) || len(p.Links) > 6 {
		return false
	}
	for _, d := range p.Doms {
		if !within(d.Prio, 0, 7) || !within(d.Max, 0, 7) || !within(d.Bits, 5, 8) {
			return false
		}
	}
	named := make([]int, len(p.Doms))
	for _, l := range p.Links {
		if sharedSize(l.Kind, l.Bits) == 0 || len(l.To) > 15 {
			return false
		}
		for _, to := range l.To {
			if !wantToOk(p, l.Kind, to) {
				return false
			}
			named[to.Dom]++
		}
	}
	parts := wantParts(p)
	return slices.Max(named) <= 5 && parts[len(parts)-1].end() <= 1<<p.Bits
}

// wantBootSlots writes the slots down in the order of the tree: what was put last stands next to the original.
func wantBootSlots(p impl.BootPlan) []impl.TreeSlot {
	parts := wantParts(p)
	var slots []impl.TreeSlot
	root := 64
	add := func(at int, depth int, c impl.Cap) {
		slots = append(slots, impl.TreeSlot{At: at, Cap: c, Depth: depth})
	}
	for i, d := range p.Doms {
		node, thread, region := parts[3*i].addr, parts[3*i+1].addr, parts[3*i+2].addr
		add(root, 0, impl.Cap{Kind: impl.CapNode, Addr: node, Bits: 3, Orig: true})
		add(thread, 1, impl.Cap{Kind: impl.CapNode, Addr: node, Bits: 3})
		add(node, 1, impl.Cap{Kind: impl.CapNode, Addr: node, Bits: 3})
		add(root+4, 0, impl.Cap{Kind: impl.CapThread, Addr: thread, Orig: true})
		add(node+4, 1, impl.Cap{Kind: impl.CapThread, Addr: thread})
		add(node+8, 0, impl.Cap{Kind: impl.CapUntyped, Addr: region, Bits: d.Bits, Orig: true})
		root += 8
	}
	held := make([]int, len(p.Doms))
	for i, l := range p.Links {
		addr := parts[3*len(p.Doms)+i].addr
		all := map[int]int{impl.CapEnd: 7, impl.CapNote: 3, impl.CapFrame: 3}[l.Kind]
		add(root, 0, impl.Cap{Kind: l.Kind, Addr: addr, Bits: l.Bits, Rights: all, Orig: true})
		root += 4
		first := len(slots)
		for _, to := range l.To {
			at := parts[3*to.Dom].addr + 12 + 4*held[to.Dom]
			held[to.Dom]++
			add(at, 1, impl.Cap{Kind: l.Kind, Addr: addr, Bits: l.Bits, Rights: to.Rights, Badge: to.Badge})
		}
		slices.Reverse(slots[first:])
	}
	return slots
}

func wantBootMake(p impl.BootPlan) (impl.Kern, bool) {
	if !wantBootOk(p) {
		return impl.Kern{}, false
	}
	k := impl.Kern{Bits: p.Bits, Slots: wantBootSlots(p)}
	parts := wantParts(p)
	for i, d := range p.Doms {
		at := parts[3*i+1].addr
		k.Threads = append(k.Threads, impl.KernThread{At: at, State: 1, Prio: d.Prio, Max: d.Max, Slice: 4})
		k.Ready[d.Prio] = append(k.Ready[d.Prio], at)
	}
	for i, l := range p.Links {
		part := parts[3*len(p.Doms)+i]
		switch l.Kind {
		case impl.CapEnd:
			k.Ends = append(k.Ends, impl.KernEnd{At: part.addr})
		case impl.CapNote:
			k.Notes = append(k.Notes, impl.KernNote{At: part.addr})
		default:
			k.Frames = append(k.Frames, impl.KernFrame{At: part.addr, Data: make([]uint32, part.size)})
		}
	}
	return k, true
}

// labelIn is the label of the part in which a word lies.
func labelIn(parts []planPart, addr int) int {
	for _, part := range parts {
		if within(addr, part.addr, part.end()-1) {
			return part.label
		}
	}
	return 0
}

// anyPlan is a plan of numbers that may be; its parts may need too many words, and a domain may be named too often.
func anyPlan(r *rand.Rand) impl.BootPlan {
	p := impl.BootPlan{Bits: 9 + r.Intn(4)}
	for range 1 + r.Intn(3) {
		p.Doms = append(p.Doms, impl.BootDom{Prio: r.Intn(8), Max: r.Intn(8), Bits: 5 + r.Intn(4)})
	}
	for range r.Intn(7) {
		l := impl.BootLink{Kind: impl.CapEnd + r.Intn(3)}
		if l.Kind == impl.CapFrame {
			l.Bits = r.Intn(7)
		}
		for range r.Intn(5) {
			to := impl.BootTo{Dom: r.Intn(len(p.Doms)), Rights: r.Intn(impl.CapMax(l.Kind) + 1)}
			if l.Kind != impl.CapFrame {
				to.Badge = []int{0, 1, 65535, r.Intn(65536)}[r.Intn(4)]
			}
			l.To = append(l.To, to)
		}
		p.Links = append(p.Links, l)
	}
	return p
}

// okPlan is a plan that is ok.
func okPlan(r *rand.Rand) impl.BootPlan {
	for {
		if p := anyPlan(r); wantBootOk(p) {
			return p
		}
	}
}

// wildPlan is a plan of any numbers.
func wildPlan(r *rand.Rand) impl.BootPlan {
	number := func() int {
		if r.Intn(4) == 0 {
			return farInts[r.Intn(len(farInts))]
		}
		return r.Intn(14) - 1
	}
	p := impl.BootPlan{Bits: number()}
	for range r.Intn(5) {
		p.Doms = append(p.Doms, impl.BootDom{Prio: number(), Max: number(), Bits: number()})
	}
	for range r.Intn(9) {
		l := impl.BootLink{Kind: number(), Bits: number()}
		for range r.Intn(18) {
			l.To = append(l.To, impl.BootTo{Dom: number(), Rights: number(), Badge: number()})
		}
		p.Links = append(p.Links, l)
	}
	return p
}
