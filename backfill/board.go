package backfill

import (
	"cmp"
	"slices"

	"ganger/api"
)

// board is a scene, with the slots that were given in it.
type board struct {
	order  int
	failed []int
	byFrom []api.Held
	byTo   []api.Held
}

func newBoard(s api.Scene) *board {
	b := &board{order: s.Order, failed: s.Failed, byFrom: slices.Clone(s.L), byTo: slices.Clone(s.L)}
	slices.SortFunc(b.byFrom, compareFrom)
	slices.SortFunc(b.byTo, compareTo)
	return b
}

func compareFrom(a api.Held, b api.Held) int {
	return cmp.Compare(a.From, b.From)
}

func compareTo(a api.Held, b api.Held) int {
	return cmp.Compare(a.To, b.To)
}

// hold adds a block that is held.
func (b *board) hold(h api.Held) {
	at, _ := slices.BinarySearchFunc(b.byFrom, h, compareFrom)
	b.byFrom = slices.Insert(b.byFrom, at, h)
	at, _ = slices.BinarySearchFunc(b.byTo, h, compareTo)
	b.byTo = slices.Insert(b.byTo, at, h)
}

// at returns the smallest start of a block of that order that is free then.
func (b *board) at(order int, from int, to int) (int, bool) {
	m := b.newMarks(order)
	for _, h := range b.byFrom {
		if h.From < to && h.To > from {
			m.add(h.Block, 1)
		}
	}
	return m.first()
}

// earliest returns the smallest tick at which there is a free block, and its start.
func (b *board) earliest(order int, from int, length int) (int, int, bool) {
	m := b.newMarks(order)
	entered, left := 0, 0
	for _, tick := range b.ticks(from) {
		// The marks are those of the blocks that are held at some tick of tick to tick + length.
		for ; entered < len(b.byFrom) && b.byFrom[entered].From < tick+length; entered++ {
			m.add(b.byFrom[entered].Block, 1)
		}
		for ; left < len(b.byTo) && b.byTo[left].To <= tick; left++ {
			m.add(b.byTo[left].Block, -1)
		}
		if start, ok := m.first(); ok {
			return tick, start, true
		}
	}
	return 0, 0, false
}

// ticks are those at which a block may become free, sorted.
func (b *board) ticks(from int) []int {
	l := []int{from}
	for _, h := range b.byTo {
		if h.To > l[len(l)-1] {
			l = append(l, h.To)
		}
	}
	return l
}

// marks count, for each block of an order, what keeps it from being free.
type marks struct {
	order  int
	counts []int
	free   int // how many counts are 0
}

// newMarks returns the marks of the failed workers alone.
func (b *board) newMarks(order int) *marks {
	n := 1 << (b.order - order)
	m := &marks{order: order, counts: make([]int, n), free: n}
	for _, worker := range b.failed {
		m.add(api.Block{Start: worker}, 1)
	}
	return m
}

// add adds n, which is 1 or -1, to the counts of all blocks that share a worker with b.
func (m *marks) add(b api.Block, n int) {
	last := b.Start + 1<<b.Order - 1
	for i := b.Start >> m.order; i <= last>>m.order; i++ {
		before := m.counts[i]
		m.counts[i] += n
		switch {
		case before == 0:
			m.free--
		case m.counts[i] == 0:
			m.free++
		}
	}
}

// first returns the start of the first free block.
func (m *marks) first() (int, bool) {
	if m.free == 0 {
		return 0, false
	}
	return slices.Index(m.counts, 0) << m.order, true
}
