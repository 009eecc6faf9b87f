package buddy

import (
	"slices"

	"ganger/api"
)

// size is the number of workers of a block.
func size(order int) int {
	return 1 << order
}

func contains(b api.Block, worker int) bool {
	return worker >= b.Start && worker < b.Start+size(b.Order)
}

// halves are the two blocks of which a block consists.
func halves(b api.Block) (api.Block, api.Block) {
	order := b.Order - 1
	return api.Block{Start: b.Start, Order: order}, api.Block{Start: b.Start + size(order), Order: order}
}

// freeAround returns the free block that contains b.
func (y *Yard) freeAround(b api.Block) (api.Block, bool) {
	for order := b.Order; order <= y.order; order++ {
		around := api.Block{Start: b.Start &^ (size(order) - 1), Order: order}
		if _, ok := slices.BinarySearch(y.free[order], around.Start); ok {
			return around, true
		}
	}
	return api.Block{}, false
}

// carve splits the free block that contains b, till b is apart, and makes b not free.
func (y *Yard) carve(b api.Block) {
	rest, ok := y.freeAround(b)
	if !ok {
		return
	}
	y.remove(rest)
	for rest != b {
		left, right := halves(rest)
		if contains(left, b.Start) {
			rest = left
			y.insert(right)
		} else {
			rest = right
			y.insert(left)
		}
	}
}

// insert makes b free, merged with its neighbour as long as that is free too.
func (y *Yard) insert(b api.Block) {
	for b.Order < y.order {
		other := api.Block{Start: b.Start ^ size(b.Order), Order: b.Order}
		if !y.remove(other) {
			break
		}
		b = api.Block{Start: min(b.Start, other.Start), Order: b.Order + 1}
	}
	at, _ := slices.BinarySearch(y.free[b.Order], b.Start)
	y.free[b.Order] = slices.Insert(y.free[b.Order], at, b.Start)
}

// remove takes b from the free blocks, and reports whether it was one.
func (y *Yard) remove(b api.Block) bool {
	at, ok := slices.BinarySearch(y.free[b.Order], b.Start)
	if ok {
		y.free[b.Order] = slices.Delete(y.free[b.Order], at, at+1)
	}
	return ok
}

// release makes all workers of b free that have not failed.
func (y *Yard) release(b api.Block) {
	if !slices.ContainsFunc(y.failed, func(worker int) bool { return contains(b, worker) }) {
		y.insert(b)
		return
	}
	if b.Order > 0 {
		left, right := halves(b)
		y.release(left)
		y.release(right)
	}
}
