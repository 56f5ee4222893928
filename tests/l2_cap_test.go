package tests

import (
	"fmt"
	"math"
	"math/rand"
	"testing"

	"loop.example/donjon/impl"
)

// capRow is a row of the document's table of kinds, written out here anew.
type capRow struct {
	word        string
	least, most int
	each        int // words of an object of 0 bits
	rights      int
	orig        []bool
	badge       bool
	guard       bool
	free        bool
}

var capTable = [8]capRow{
	1: {word: "untyped", least: 2, most: 11, each: 1, orig: []bool{true}, free: true},
	2: {word: "node", least: 1, most: 5, each: 4, orig: []bool{false, true}, guard: true},
	3: {word: "thread", each: 32, orig: []bool{false, true}},
	4: {word: "end", each: 4, rights: 7, orig: []bool{false, true}, badge: true},
	5: {word: "note", each: 4, rights: 3, orig: []bool{false, true}, badge: true},
	6: {word: "frame", most: 6, each: 1, rights: 3, orig: []bool{false, true}},
	7: {word: "reply", each: 32, orig: []bool{false}},
}

// pow is 2 to a small number, step by step.
func pow(n int) int {
	p := 1
	for ; n > 0; n-- {
		p *= 2
	}
	return p
}

func wantCapOk(c impl.Cap) bool {
	if c.Kind < 1 || c.Kind > 7 {
		return false
	}
	row := capTable[c.Kind]
	if c.Bits < row.least || c.Bits > row.most {
		return false
	}
	if c.Rights < 0 || c.Rights > 7 || c.Rights|row.rights != row.rights {
		return false
	}
	if c.Badge < 0 || c.Badge > 65535 || c.Badge > 0 && !row.badge {
		return false
	}
	if c.GuardBits < 0 || c.GuardBits > 8 || c.GuardBits > 0 && !row.guard {
		return false
	}
	if c.Guard < 0 || c.Guard >= pow(c.GuardBits) {
		return false
	}
	if c.Free < 0 || c.Free > 0 && (!row.free || c.Free > pow(c.Bits)) {
		return false
	}
	words := row.each * pow(c.Bits)
	if c.Addr < 0 || c.Addr > 4096 || c.Addr%words != 0 || c.Addr+words > 4096 {
		return false
	}
	for _, orig := range row.orig {
		if orig == c.Orig {
			return true
		}
	}
	return false
}

func wantCapPack(c impl.Cap) (uint32, uint32) {
	if !wantCapOk(c) {
		return 0, 0
	}
	a := c.Kind + 32*c.Rights + 256*c.Bits + 4096*c.GuardBits + 65536*c.Free
	if c.Orig {
		a += 16
	}
	b := c.Addr + 65536*c.Badge + 65536*c.Guard
	return uint32(a), uint32(b)
}

var rightsTexts = [8]string{"-", "r", "w", "rw", "g", "rg", "wg", "rwg"}

func wantCapText(c impl.Cap) string {
	if !wantCapOk(c) {
		return ""
	}
	row := capTable[c.Kind]
	head := row.word
	if c.Orig {
		head += "*"
	}
	switch c.Kind {
	case 1:
		return fmt.Sprintf("%s %d %d %d", head, c.Addr, c.Bits, c.Free)
	case 2:
		return fmt.Sprintf("%s %d %d %d %d", head, c.Addr, c.Bits, c.Guard, c.GuardBits)
	case 4, 5:
		return fmt.Sprintf("%s %d %s %d", head, c.Addr, rightsTexts[c.Rights], c.Badge)
	case 6:
		return fmt.Sprintf("%s %d %d %s", head, c.Addr, c.Bits, rightsTexts[c.Rights])
	}
	return fmt.Sprintf("%s %d", head, c.Addr)
}

// wantCapUnpack takes the words apart by division, and asks whether they are made of what that gives.
func wantCapUnpack(a uint32, b uint32) (impl.Cap, bool) {
	c := impl.Cap{
		Kind:      int(a % 8),
		Orig:      a/16%2 == 1,
		Rights:    int(a / 32 % 8),
		Bits:      int(a / 256 % 16),
		GuardBits: int(a / 4096 % 16),
		Free:      int(a / 65536),
		Addr:      int(b % 65536),
	}
	if c.Kind == 2 {
		c.Guard = int(b / 65536)
	} else {
		c.Badge = int(b / 65536)
	}
	if wa, wb := wantCapPack(c); !wantCapOk(c) || wa != a || wb != b {
		return impl.Cap{}, false
	}
	return c, true
}

func checkUnpack(t *testing.T, a uint32, b uint32) {
	t.Helper()
	want, wantOk := wantCapUnpack(a, b)
	if got, ok := impl.CapUnpack(a, b); got != want || ok != wantOk {
		t.Errorf("CapUnpack(%#x, %#x) = %+v, %v, not %+v, %v", a, b, got, ok, want, wantOk)
	}
}

// checkRead asks that nothing but the text of a capability is read.
func checkRead(t *testing.T, text string) {
	t.Helper()
	c, ok := impl.CapRead(text)
	if !ok && c != (impl.Cap{}) {
		t.Errorf("CapRead(%q) = %+v beside false", text, c)
	}
	if ok && (!wantCapOk(c) || wantCapText(c) != text) {
		t.Errorf("CapRead(%q) = %+v, of which the text is %q", text, c, wantCapText(c))
	}
}

// checkCap holds the functions of one capability against the table.
func checkCap(t *testing.T, c impl.Cap) {
	t.Helper()
	ok := wantCapOk(c)
	if impl.CapOk(c) != ok {
		t.Fatalf("CapOk(%+v) = %v", c, !ok)
	}
	wa, wb := wantCapPack(c)
	if a, b := impl.CapPack(c); a != wa || b != wb {
		t.Fatalf("CapPack(%+v) = %d, %d, not %d, %d", c, a, b, wa, wb)
	}
	text := impl.CapText(c)
	if text != wantCapText(c) {
		t.Fatalf("CapText(%+v) = %q, not %q", c, text, wantCapText(c))
	}
	if !ok {
		return
	}
	if got, ok := impl.CapUnpack(wa, wb); !ok || got != c {
		t.Fatalf("CapUnpack of CapPack(%+v) = %+v, %v", c, got, ok)
	}
	if got, ok := impl.CapRead(text); !ok || got != c {
		t.Fatalf("CapRead(%q) = %+v, %v", text, got, ok)
	}
}

// capAddrs has, for a number of words, both ends of memory, addresses one word off, and such that are a multiple of half of them alone.
func capAddrs(words int) []int {
	return []int{0, 1, words / 2, words - 1, words, words + 1, 128, 132, 3 * words, 4096 - 2*words, 4096 - words - 1, 4096 - words, 4096 - words + 1, 4096 - words/2, 4095, 4096, 4096 + words}
}

// okCaps is the ok ones with the least and the greatest of everything, of each kind.
func okCaps() []impl.Cap {
	var list []impl.Cap
	for kind := 1; kind <= 7; kind++ {
		row := capTable[kind]
		for bits := row.least; bits <= row.most; bits++ {
			words := row.each * pow(bits)
			for _, orig := range row.orig {
				for _, addr := range []int{0, words, 4096 - words} {
					list = append(list, withBeside(impl.Cap{Kind: kind, Bits: bits, Addr: addr, Orig: orig})...)
				}
			}
		}
	}
	return list
}

// withBeside is a capability with each of its rights, and edges of what is beside.
func withBeside(c impl.Cap) []impl.Cap {
	var list []impl.Cap
	row := capTable[c.Kind]
	badges, guards, frees := []int{0}, [][2]int{{0, 0}}, []int{0}
	if row.badge {
		badges = []int{0, 1, 9, 255, 256, 32768, 65534, 65535}
	}
	if row.guard {
		for n := 1; n <= 8; n++ {
			guards = append(guards, [2]int{0, n}, [2]int{1, n}, [2]int{pow(n) / 2, n}, [2]int{pow(n) - 1, n})
		}
	}
	if row.free {
		frees = []int{0, 1, 2, pow(c.Bits) / 2, pow(c.Bits) - 1, pow(c.Bits)}
	}
	for rights := 0; rights <= row.rights; rights++ {
		for _, badge := range badges {
			for _, guard := range guards {
				for _, free := range frees {
					d := c
					d.Rights, d.Badge, d.Guard, d.GuardBits, d.Free = rights, badge, guard[0], guard[1], free
					list = append(list, d)
				}
			}
		}
	}
	return list
}

// farInts are numbers that go with nothing, and such whose lowest bits alone would.
var farInts = []int{math.MinInt, math.MinInt + 1, -1 << 32, -1<<32 + 1, math.MinInt32, -65536, -1, 1 << 16, 1<<16 + 1, math.MaxInt32, math.MaxUint32, 1 << 32, 1<<32 + 1, math.MaxInt - 1, math.MaxInt}

func TestCapConstants(t *testing.T) {
	kinds := [7]int{impl.CapUntyped, impl.CapNode, impl.CapThread, impl.CapEnd, impl.CapNote, impl.CapFrame, impl.CapReply}
	if kinds != [7]int{1, 2, 3, 4, 5, 6, 7} {
		t.Errorf("kinds %v", kinds)
	}
	if impl.CapReads != 1 || impl.CapWrites != 2 || impl.CapGrants != 4 {
		t.Error("rights are 1, 2 and 4")
	}
	bounds := [5]int{impl.CapMaxUntyped, impl.CapMaxNode, impl.CapMaxFrame, impl.CapMaxBadge, impl.CapMaxGuard}
	if bounds != [5]int{11, 5, 6, 65535, 8} {
		t.Errorf("bounds %v", bounds)
	}
}

func TestCapSizeAndMax(t *testing.T) {
	wide := append([]int{}, farInts...)
	for n := -3; n <= 70; n++ {
		wide = append(wide, n)
	}
	for _, kind := range wide {
		row := capRow{least: 1}
		if 1 <= kind && kind <= 7 {
			row = capTable[kind]
		}
		if got := impl.CapMax(kind); got != row.rights {
			t.Errorf("CapMax(%d) = %d", kind, got)
		}
		for _, bits := range wide {
			want := 0
			if kind != impl.CapReply && row.least <= bits && bits <= row.most {
				want = row.each * pow(bits)
			}
			if got := impl.CapSize(kind, bits); got != want {
				t.Errorf("CapSize(%d, %d) = %d, not %d", kind, bits, got, want)
			}
		}
	}
	sizes := [7]int{impl.CapSize(1, 2), impl.CapSize(1, 11), impl.CapSize(2, 1), impl.CapSize(2, 5), impl.CapSize(3, 0), impl.CapSize(6, 0), impl.CapSize(6, 6)}
	if sizes != [7]int{4, 2048, 8, 128, 32, 1, 64} {
		t.Errorf("sizes %v", sizes)
	}
}

// TestCapPromise2 has each ok one there and back, as words and as text.
func TestCapPromise2(t *testing.T) {
	list := okCaps()
	if len(list) < 1000 {
		t.Fatalf("only %d", len(list))
	}
	for _, c := range list {
		if !wantCapOk(c) {
			t.Fatalf("%+v should be ok", c)
		}
		checkCap(t, c)
	}
}

// TestCapEveryBadge goes through all badges, guards and Frees that there are.
func TestCapEveryBadge(t *testing.T) {
	for badge := 0; badge <= 65536; badge++ {
		checkCap(t, impl.Cap{Kind: 4 + badge%2, Addr: 4 * (badge % 1024), Rights: badge % 4, Badge: badge, Orig: badge%3 == 0})
	}
	for n := 0; n <= 9; n++ {
		for guard := 0; guard <= 513; guard++ {
			checkCap(t, impl.Cap{Kind: 2, Addr: 256, Bits: 5, GuardBits: n, Guard: guard})
		}
	}
	for bits := 1; bits <= 12; bits++ {
		for free := 0; free <= 4097; free++ {
			checkCap(t, impl.Cap{Kind: 1, Addr: pow(bits), Bits: bits, Free: free, Orig: true})
		}
	}
}

// TestCapEveryAddr has each address with each kind and size.
func TestCapEveryAddr(t *testing.T) {
	for kind := 1; kind <= 7; kind++ {
		for bits := capTable[kind].least; bits <= capTable[kind].most; bits++ {
			for addr := -1; addr <= 4100; addr++ {
				checkCap(t, impl.Cap{Kind: kind, Addr: addr, Bits: bits, Orig: kind != 7})
			}
		}
	}
}

// TestCapEdges crosses the edges of all fields with each other.
func TestCapEdges(t *testing.T) {
	for kind := 0; kind <= 8; kind++ {
		row := capTable[kind%8]
		for _, bits := range []int{row.least - 1, row.least, row.most, row.most + 1} {
			for _, addr := range capAddrs(max(1, row.each) * pow(bits)) {
				for rights := -1; rights <= 8; rights++ {
					for _, orig := range []bool{false, true} {
						checkBeside(t, impl.Cap{Kind: kind, Addr: addr, Bits: bits, Rights: rights, Orig: orig})
					}
				}
			}
		}
	}
}

func checkBeside(t *testing.T, c impl.Cap) {
	t.Helper()
	for _, badge := range []int{-1, 0, 1, 65535, 65536} {
		for _, guard := range [][2]int{{0, -1}, {-1, 0}, {0, 0}, {1, 0}, {0, 1}, {1, 1}, {2, 1}, {-1, 8}, {255, 8}, {256, 8}, {0, 9}} {
			for _, free := range []int{-1, 0, 1, pow(c.Bits), pow(c.Bits) + 1} {
				d := c
				d.Badge, d.Guard, d.GuardBits, d.Free = badge, guard[0], guard[1], free
				checkCap(t, d)
			}
		}
	}
}

// TestCapFarNumbers puts a number that goes with nothing into one field at a time.
func TestCapFarNumbers(t *testing.T) {
	for _, c := range okCaps() {
		if c.Addr != 0 {
			continue
		}
		for _, n := range farInts {
			for field := 0; field < 8; field++ {
				d := c
				*[]*int{&d.Kind, &d.Addr, &d.Bits, &d.Rights, &d.Badge, &d.Guard, &d.GuardBits, &d.Free}[field] = n
				if impl.CapOk(d) {
					t.Fatalf("CapOk(%+v)", d)
				}
				checkCap(t, d)
				checkDerived(t, d, 7, 0)
			}
		}
	}
	checkCap(t, impl.Cap{})
	for _, n := range farInts {
		d := impl.Cap{Kind: n, Addr: n, Bits: n, Rights: n, Badge: n, Guard: n, GuardBits: n, Free: n, Orig: true}
		checkCap(t, d)
		checkDerived(t, d, 7, 0)
	}
}

func TestCapUnpackUnusedBits(t *testing.T) {
	cases := []struct {
		what string
		a, b uint32
	}{
		{"nothing", 0, 0},
		{"no kind", 16, 128},
		{"kind 8", 8, 128},
		{"bit 3 of an endpoint", 4 + 8, 128},
		{"bit 28 of a region", 1 + 16 + 6<<8 + 1<<28, 256},
		{"bit 31 of a region", 1 + 16 + 6<<8 + 1<<31, 256},
		{"Free of an endpoint", 4 + 1<<16, 128},
		{"Free beyond a region", 1 + 16 + 2<<8 + 5<<16, 128},
		{"guard bits of a thread", 3 + 1<<12, 128},
		{"nine guard bits of a node", 2 + 1<<8 + 9<<12, 128},
		{"a guard without bits", 2 + 1<<8, 128 + 1<<16},
		{"a badge of a thread", 3, 128 + 1<<16},
		{"a badge of a frame", 6, 128 + 1<<16},
		{"a badge of a reply", 7, 128 + 1<<16},
		{"a badge of a region", 1 + 16 + 2<<8, 128 + 1<<16},
		{"rights of a node", 2 + 1<<8 + 1<<5, 128},
		{"granting of a notification", 5 + 4<<5, 128},
		{"bits of a thread", 3 + 1<<8, 128},
		{"bit 12 of the address", 4, 128 + 1<<12},
		{"bit 15 of the address", 4, 128 + 1<<15},
		{"an address that is not aligned", 4, 130},
		{"a region that is no original", 1 + 2<<8, 128},
		{"an original reply", 7 + 16, 128},
		{"all bits", math.MaxUint32, math.MaxUint32},
	}
	for _, c := range cases {
		if got, ok := impl.CapUnpack(c.a, c.b); ok || got != (impl.Cap{}) {
			t.Errorf("%s: %+v, %v", c.what, got, ok)
		}
	}
}

// TestCapUnpackOtherBits turns each bit, and each two bits, of the words of each.
func TestCapUnpackOtherBits(t *testing.T) {
	for n, c := range okCaps() {
		a, b := wantCapPack(c)
		for i := 0; i < 64; i++ {
			one := uint64(1) << i
			checkUnpack(t, a^uint32(one), b^uint32(one>>32))
			if n%16 != 0 {
				continue
			}
			for k := i + 1; k < 64; k++ {
				two := one | uint64(1)<<k
				checkUnpack(t, a^uint32(two), b^uint32(two>>32))
			}
		}
	}
}

func TestCapUnpackAnyWords(t *testing.T) {
	source := rand.New(rand.NewSource(2))
	for i := 0; i < 300000; i++ {
		a, b := source.Uint32(), source.Uint32()
		checkUnpack(t, a, b)
		// Words that are nearly all 0 hit far more often.
		checkUnpack(t, a&source.Uint32()&0x0fff0fff, b&source.Uint32()&source.Uint32())
		checkUnpack(t, a&0xff, b&0xffe0)
	}
}

func TestCapReadWrong(t *testing.T) {
	for _, text := range []string{
		"", " ", "*", "end", "end ", "end*", "end 128", "end 128 rw", "end 128 rw 0 0", "end 128 rw ",
		" end 128 rw 0", "end 128 rw 0 ", "end  128 rw 0", "end 128  rw 0", "end 128 rw  0", "end\t128 rw 0", "end 128 rw 0\n",
		"end 0128 rw 0", "end 00 rw 0", "end 128 rw 00", "end 128 rw 07", "end +128 rw 0", "end 128 rw +7", "end -0 rw 0", "end 128 rw -0", "end 128 rw -1", "end -4 rw 0",
		"end 128 wr 0", "end 128 gr 0", "end 128 rr 0", "end 128 rw- 0", "end 128 -- 0", "end 128  0", "end 128 x 0", "end 128 R 0", "end 128 3 0", "end 128 rwgr 0",
		"note 128 g 0", "note 128 rwg 0", "frame 128 2 rwg", "frame 128 7 rw", "frame 130 2 r", "frame 128 rw", "frame 128 2",
		"end 128 rw 65536", "end 128 rw 1e3", "end 128 rw 0x7", "end 128 rw 1_0", "end 130 rw 0", "end 4096 rw 0", "end 4092.0 rw 0",
		"end 18446744073709551744 rw 0", "end 4294967424 rw 0", "end 128 rw 18446744073709551616", "end 128 rw 9223372036854775807", "end 128 rw -9223372036854775808", "end 128 rw 99999999999999999999999999999999999999",
		"end** 128 rw 0", "*end 128 rw 0", "end *128 rw 0", "end* 128* rw 0", "end * 128 rw 0", "End 128 rw 0", "END 128 rw 0", "ends 128 rw 0", "en 128 rw 0",
		"untyped 256 6 0", "untyped* 256 1 0", "untyped* 2048 12 0", "untyped* 256 6 65", "untyped* 256 6 -1", "untyped* 256 6", "untyped* 256 6 0 0",
		"node 128 0 0 0", "node 0 6 0 0", "node 128 3 1 0", "node 128 3 8 3", "node 128 3 256 8", "node 128 3 0 9", "node 128 3 -1 3", "node 128 3 0", "node 3968 5 0",
		"thread 4080", "thread 130", "thread 128 0", "thread 4096", "reply* 128", "reply 130", "reply 4096", "reply 128 0", "reply",
		"\x00", "end\x00128 rw 0", "end 128 rw 0\x00", "\xff\xfe", "end 128 \xffw 0", "end 12８ rw 0", "\u00a0end 128 rw 0",
	} {
		if c, ok := impl.CapRead(text); ok || c != (impl.Cap{}) {
			t.Errorf("CapRead(%q) = %+v, %v", text, c, ok)
		}
	}
}

// TestCapReadOtherTexts takes away, exchanges and puts in a byte at each place.
func TestCapReadOtherTexts(t *testing.T) {
	const bytes = " *-+0159rwgxe\x00\t\xff"
	for n, c := range okCaps() {
		if n%5 != 0 {
			continue
		}
		text := wantCapText(c)
		for i := 0; i <= len(text); i++ {
			checkRead(t, text[:i])
			checkRead(t, text[i:])
			for k := 0; k < len(bytes); k++ {
				checkRead(t, text[:i]+bytes[k:k+1]+text[i:])
				if i < len(text) {
					checkRead(t, text[:i]+bytes[k:k+1]+text[i+1:])
				}
			}
			if i < len(text) {
				checkRead(t, text[:i]+text[i+1:])
			}
		}
	}
}

func TestCapReadAnyBytes(t *testing.T) {
	source := rand.New(rand.NewSource(3))
	for i := 0; i < 20000; i++ {
		text := make([]byte, source.Intn(24))
		source.Read(text)
		checkRead(t, string(text))
	}
	checkRead(t, "end 128 rw "+string(make([]byte, 1<<16)))
	long := make([]byte, 1<<16)
	for i := range long {
		long[i] = ' '
	}
	checkRead(t, "end"+string(long))
}

// FuzzCapRead is for looking further; its seeds are run with the other tests.
func FuzzCapRead(f *testing.F) {
	for _, text := range []string{"untyped* 256 6 32", "node 128 3 5 3", "thread* 160", "end 132 rg 9", "note 128 - 65535", "frame* 192 4 rw", "reply 160"} {
		f.Add(text)
	}
	f.Fuzz(func(t *testing.T, text string) { checkRead(t, text) })
}

func wantCapCopy(c impl.Cap, rights uint32) (impl.Cap, bool) {
	if !wantCapOk(c) || c.Kind == 1 || c.Kind == 7 {
		return impl.Cap{}, false
	}
	d := c
	d.Orig = false
	d.Rights = 0
	for _, right := range []int{1, 2, 4} {
		if c.Rights/right%2 == 1 && int(rights)/right%2 == 1 {
			d.Rights += right
		}
	}
	return d, true
}

func wantCapMint(c impl.Cap, rights uint32, x uint32) (impl.Cap, bool) {
	d, ok := wantCapCopy(c, rights)
	if !ok {
		return impl.Cap{}, false
	}
	switch d.Kind {
	case 4, 5:
		if c.Badge == 0 && x <= 65535 {
			d.Badge = int(x)
			return d, true
		}
	case 2:
		d.Guard, d.GuardBits = int(x%65536), int(x/65536)
		if wantCapOk(d) {
			return d, true
		}
	}
	return impl.Cap{}, false
}

func wantCapBelow(a impl.Cap, b impl.Cap) bool {
	if !wantCapOk(a) || !wantCapOk(b) || a.Kind != b.Kind || a.Addr != b.Addr || a.Bits != b.Bits {
		return false
	}
	for _, right := range []int{1, 2, 4} {
		if a.Rights/right%2 > b.Rights/right%2 {
			return false
		}
	}
	return a.Badge == b.Badge || b.Badge == 0
}

// checkDerived holds a copy and a mint against the document, and asks for promise 3.
func checkDerived(t *testing.T, c impl.Cap, rights uint32, x uint32) {
	t.Helper()
	want, wantOk := wantCapCopy(c, rights)
	got, ok := impl.CapCopy(c, rights)
	if got != want || ok != wantOk {
		t.Fatalf("CapCopy(%+v, %d) = %+v, %v, not %+v, %v", c, rights, got, ok, want, wantOk)
	}
	if ok && (got.Orig || !impl.CapBelow(got, c) || !impl.CapOk(got)) {
		t.Fatalf("the copy %+v is not below %+v", got, c)
	}
	want, wantOk = wantCapMint(c, rights, x)
	got, ok = impl.CapMint(c, rights, x)
	if got != want || ok != wantOk {
		t.Fatalf("CapMint(%+v, %d, %d) = %+v, %v, not %+v, %v", c, rights, x, got, ok, want, wantOk)
	}
	if ok && (got.Orig || !impl.CapBelow(got, c) || !impl.CapOk(got)) {
		t.Fatalf("what is minted, %+v, is not below %+v", got, c)
	}
}

func TestCapCopyAndMint(t *testing.T) {
	xs := []uint32{0, 1, 9, 65535, 65536, 65537, 65538, 2 << 16, 2<<16 + 3, 2<<16 + 4, 8<<16 + 255, 8<<16 + 256, 9 << 16, 9<<16 + 1, 16 << 16, 255 << 16, 1<<24 + 1, 1 << 31, math.MaxUint32 - 65535, math.MaxUint32}
	rights := []uint32{0, 1, 2, 3, 4, 5, 6, 7, 8, 10, 15, 16, 1 << 31, math.MaxUint32 - 7, math.MaxUint32 - 2, math.MaxUint32}
	for _, c := range okCaps() {
		for i, r := range rights {
			for k, x := range xs {
				if c.Addr == 0 || i == k {
					checkDerived(t, c, r, x)
				}
			}
		}
	}
	for badge := uint32(0); badge <= 65537; badge++ {
		checkDerived(t, impl.Cap{Kind: impl.CapEnd, Addr: 128, Rights: 7, Orig: true}, badge, badge)
		checkDerived(t, impl.Cap{Kind: impl.CapNode, Addr: 128, Bits: 2, Guard: 3, GuardBits: 2}, badge, badge*7)
	}
}

func TestCapBadgeOnBadge(t *testing.T) {
	for _, kind := range []int{impl.CapEnd, impl.CapNote} {
		whole := impl.Cap{Kind: kind, Addr: 128, Rights: 3, Orig: true}
		none, ok := impl.CapMint(whole, 3, 0)
		if !ok || none.Badge != 0 {
			t.Errorf("badge 0 on none: %+v, %v", none, ok)
		}
		nine, ok := impl.CapMint(none, 3, 9)
		if !ok || nine.Badge != 9 {
			t.Errorf("badge 9 on none: %+v, %v", nine, ok)
		}
		for _, x := range []uint32{0, 1, 9, 65535, 65536} {
			if c, ok := impl.CapMint(nine, 3, x); ok || c != (impl.Cap{}) {
				t.Errorf("badge %d on 9: %+v", x, c)
			}
		}
		if c, ok := impl.CapCopy(nine, 1); !ok || c.Badge != 9 || c.Rights != 1 {
			t.Errorf("a copy keeps its badge: %+v, %v", c, ok)
		}
	}
}

func TestCapMintGuards(t *testing.T) {
	guarded := impl.Cap{Kind: impl.CapNode, Addr: 256, Bits: 3, Guard: 5, GuardBits: 3, Orig: true}
	// Another guard on a guard may be given, unlike a badge on a badge.
	if c, ok := impl.CapMint(guarded, 0, 8<<16|255); !ok || c != (impl.Cap{Kind: impl.CapNode, Addr: 256, Bits: 3, Guard: 255, GuardBits: 8}) {
		t.Errorf("another guard: %+v, %v", c, ok)
	}
	if c, ok := impl.CapMint(guarded, 0, 0); !ok || c != (impl.Cap{Kind: impl.CapNode, Addr: 256, Bits: 3}) {
		t.Errorf("no guard: %+v, %v", c, ok)
	}
	if c, ok := impl.CapCopy(guarded, 0); !ok || c != (impl.Cap{Kind: impl.CapNode, Addr: 256, Bits: 3, Guard: 5, GuardBits: 3}) {
		t.Errorf("a copy keeps its guard: %+v, %v", c, ok)
	}
	for _, x := range []uint32{1, 1<<16 | 2, 3<<16 | 8, 8<<16 | 256, 9 << 16, 9<<16 | 1, 65535<<16 | 65535} {
		if c, ok := impl.CapMint(guarded, 0, x); ok || c != (impl.Cap{}) {
			t.Errorf("guard %#x: %+v", x, c)
		}
	}
}

// TestCapNoneOfIt has the kinds that cannot be minted, or not even copied.
func TestCapNoneOfIt(t *testing.T) {
	for _, c := range okCaps() {
		copied, minted := c.Kind != 1 && c.Kind != 7, c.Kind == 2 || (c.Kind == 4 || c.Kind == 5) && c.Badge == 0
		if _, ok := impl.CapCopy(c, 7); ok != copied {
			t.Errorf("CapCopy(%+v): %v", c, ok)
		}
		if _, ok := impl.CapMint(c, 7, 0); ok != minted {
			t.Errorf("CapMint(%+v): %v", c, ok)
		}
	}
}

// fewCaps is some of each kind, among them two objects at one address, one object under two sizes, and such that are not ok.
func fewCaps() []impl.Cap {
	var list []impl.Cap
	for rights := 0; rights <= 7; rights++ {
		for _, badge := range []int{0, 1, 65535} {
			for _, kind := range []int{impl.CapEnd, impl.CapNote} {
				list = append(list, impl.Cap{Kind: kind, Addr: 128, Rights: rights, Badge: badge, Orig: badge == 1})
			}
		}
		list = append(list, impl.Cap{Kind: impl.CapFrame, Addr: 128, Bits: 2, Rights: rights}, impl.Cap{Kind: impl.CapFrame, Addr: 128, Bits: 3, Rights: rights, Orig: true})
	}
	list = append(list, impl.Cap{Kind: impl.CapEnd, Addr: 132, Rights: 7}, impl.Cap{Kind: impl.CapEnd, Addr: 130, Rights: 7}, impl.Cap{})
	for _, kind := range []int{impl.CapThread, impl.CapReply} {
		list = append(list, impl.Cap{Kind: kind, Addr: 128}, impl.Cap{Kind: kind, Addr: 160}, impl.Cap{Kind: kind, Addr: 128, Orig: true})
	}
	for _, guard := range [][2]int{{0, 0}, {0, 1}, {1, 1}, {255, 8}, {2, 1}} {
		list = append(list, impl.Cap{Kind: impl.CapNode, Addr: 128, Bits: 3, Guard: guard[0], GuardBits: guard[1]})
	}
	for _, free := range []int{0, 1, 64, 65} {
		list = append(list, impl.Cap{Kind: impl.CapUntyped, Addr: 128, Bits: 6, Free: free, Orig: true})
	}
	return list
}

func TestCapBelow(t *testing.T) {
	list := fewCaps()
	for _, a := range list {
		for _, b := range list {
			if got, want := impl.CapBelow(a, b), wantCapBelow(a, b); got != want {
				t.Errorf("CapBelow(%+v, %+v) = %v", a, b, got)
			}
		}
		if impl.CapBelow(a, a) != wantCapOk(a) {
			t.Errorf("%+v and itself", a)
		}
	}
}

// TestCapBelowGoesOn asks promise 3 of each three.
func TestCapBelowGoesOn(t *testing.T) {
	list := fewCaps()
	steps := 0
	for _, a := range list {
		for _, b := range list {
			if !impl.CapBelow(a, b) {
				continue
			}
			for _, c := range list {
				if impl.CapBelow(b, c) {
					steps++
					if !impl.CapBelow(a, c) {
						t.Fatalf("%+v below %+v below %+v, but not the first below the last", a, b, c)
					}
				}
			}
		}
	}
	if steps < 500 {
		t.Errorf("only %d such", steps)
	}
}

// TestCapDerivedGoesOn derives from what was derived, down to what is left.
func TestCapDerivedGoesOn(t *testing.T) {
	first := impl.Cap{Kind: impl.CapEnd, Addr: 4092, Rights: 7, Orig: true}
	second, _ := impl.CapCopy(first, 6)
	third, _ := impl.CapMint(second, 15, 65535)
	fourth, _ := impl.CapCopy(third, 5)
	want := [3]impl.Cap{{Kind: 4, Addr: 4092, Rights: 6}, {Kind: 4, Addr: 4092, Rights: 6, Badge: 65535}, {Kind: 4, Addr: 4092, Rights: 4, Badge: 65535}}
	if got := [3]impl.Cap{second, third, fourth}; got != want {
		t.Errorf("%+v", got)
	}
	line := []impl.Cap{first, second, third, fourth}
	for i := range line {
		for k := range line {
			if impl.CapBelow(line[k], line[i]) != (k >= i) {
				t.Errorf("%d below %d is not %v", k, i, k >= i)
			}
		}
	}
}
