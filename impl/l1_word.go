package impl

// Bounds of memory.
const (
	WordMinBits = 9
	WordMaxBits = 12
	WordBase    = 128
)

// wordMost is the greatest address and the greatest size of a range.
const wordMost = 1 << WordMaxBits

// wordRange is a range of words. Its zero value stands for none, as a range has a word at least.
type wordRange struct {
	addr uint32
	size uint32
}

// rangeOf looks at the bounds ahead of everything else, so that no later sum can wrap round.
func rangeOf(addr int, size int) wordRange {
	if addr < 0 || addr > wordMost || size < 1 || size > wordMost {
		return wordRange{}
	}
	return wordRange{addr: uint32(addr), size: uint32(size)}
}

// none says whether there is no range.
func (r wordRange) none() bool { return r == wordRange{} }

// end is the address behind the last word; it may lie beyond memory.
func (r wordRange) end() uint32 { return r.addr + r.size }

// rest is how far the address is behind the last multiple of the size.
func (r wordRange) rest() uint32 {
	mask := r.size - 1
	if r.size&mask == 0 {
		return r.addr & mask
	}
	// No mask tells the multiples of a size that is no power of two.
	return r.addr % r.size
}

// common is the words that two ranges share, or none.
func (r wordRange) common(other wordRange) wordRange {
	from := max(r.addr, other.addr)
	end := min(r.end(), other.end())
	if from >= end {
		return wordRange{}
	}
	return wordRange{addr: from, size: end - from}
}

// within says whether each word of a range is one of another one.
func (r wordRange) within(outer wordRange) bool { return !r.none() && r.common(outer) == r }

// WordSize is 2 to a number of bits.
func WordSize(bits int) int {
	if bits < 0 || bits > WordMaxBits {
		return 0
	}
	return 1 << uint(bits)
}

// WordAligned says whether an address is a multiple of a size.
func WordAligned(addr int, size int) bool {
	r := rangeOf(addr, size)
	return !r.none() && r.rest() == 0
}

// WordUp is the first multiple of a size from an address on.
func WordUp(addr int, size int) int {
	r := rangeOf(addr, size)
	if r.none() || r.rest() == 0 {
		return int(r.addr)
	}
	return int(r.end() - r.rest())
}

// WordIn says whether a range is within another one.
func WordIn(addr int, size int, outer int, room int) bool {
	return rangeOf(addr, size).within(rangeOf(outer, room))
}

// WordMeet says whether two ranges have a word in common.
func WordMeet(addr int, size int, other int, room int) bool {
	return !rangeOf(addr, size).common(rangeOf(other, room)).none()
}
