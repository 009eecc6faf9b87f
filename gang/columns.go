package gang

import (
	"math/bits"

	"ganger/api"
)

const (
	wordOrder = 6 // two to the power of it are the bits of a word
	wordBits  = 1 << wordOrder
	words     = 1 << (api.MaxOrder - wordOrder)
)

// columns is a set of columns, a bit for each.
type columns [words]uint64

// span returns the bits of a block: the words from first up to end, and which bits of each.
func span(b api.Block) (first int, end int, mask uint64) {
	first = b.Start / wordBits
	if b.Order >= wordOrder {
		return first, first + 1<<(b.Order-wordOrder), ^uint64(0)
	}
	ones := uint64(1)<<(1<<b.Order) - 1
	return first, first + 1, ones << (b.Start % wordBits)
}

func (s *columns) isFree(b api.Block) bool {
	first, end, mask := span(b)
	for _, word := range s[first:end] {
		if word&mask != 0 {
			return false
		}
	}
	return true
}

func (s *columns) add(b api.Block) {
	first, end, mask := span(b)
	for i := first; i < end; i++ {
		s[i] |= mask
	}
}

func (s *columns) remove(b api.Block) {
	first, end, mask := span(b)
	for i := first; i < end; i++ {
		s[i] &^= mask
	}
}

func (s *columns) count() int {
	n := 0
	for _, word := range s {
		n += bits.OnesCount64(word)
	}
	return n
}
