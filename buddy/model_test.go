package buddy_test

import (
	"slices"

	"ganger/api"
)

// model is a yard told worker by worker, and searched from end to end.
type model struct {
	order  int
	taken  []api.Block
	failed []bool
}

func newModel(order int) *model {
	return &model{order: order, failed: make([]bool, 1<<order)}
}

func (m *model) held(worker int) (api.Block, bool) {
	for _, b := range m.taken {
		if worker >= b.Start && worker < b.Start+1<<b.Order {
			return b, true
		}
	}
	return api.Block{}, false
}

func (m *model) isFree(b api.Block) bool {
	for w := b.Start; w < b.Start+1<<b.Order; w++ {
		if _, ok := m.held(w); ok || m.failed[w] {
			return false
		}
	}
	return true
}

func (m *model) free() []api.Block {
	l := []api.Block{}
	for start := 0; start < 1<<m.order; {
		order := m.order
		for order >= 0 && (start%(1<<order) != 0 || !m.isFree(api.Block{Start: start, Order: order})) {
			order--
		}
		if order < 0 {
			start++
			continue
		}
		l = append(l, api.Block{Start: start, Order: order})
		start += 1 << order
	}
	return l
}

// choose returns the start that Take selects, or -1.
func (m *model) choose(order int) int {
	free := m.free()
	for o := order; o <= m.order; o++ {
		for _, b := range free {
			if b.Order == o {
				return b.Start
			}
		}
	}
	return -1
}

func (m *model) take(order int) (int, api.Errno) {
	if order < 0 || order > m.order {
		return 0, api.ErrArg
	}
	start := m.choose(order)
	if start < 0 {
		return 0, api.ErrFull
	}
	m.taken = append(m.taken, api.Block{Start: start, Order: order})
	return start, api.OK
}

func (m *model) takeAt(b api.Block) api.Errno {
	if b.Order < 0 || b.Order > m.order || b.Start < 0 || b.Start >= 1<<m.order || b.Start%(1<<b.Order) != 0 {
		return api.ErrArg
	}
	if !m.isFree(b) {
		return api.ErrFull
	}
	m.taken = append(m.taken, b)
	return api.OK
}

func (m *model) give(start int) api.Errno {
	at := slices.IndexFunc(m.taken, func(b api.Block) bool { return b.Start == start })
	if at < 0 {
		return api.ErrNone
	}
	m.taken = slices.Delete(m.taken, at, at+1)
	return api.OK
}

func (m *model) mark(worker int, failed bool, e api.Errno) api.Errno {
	if worker < 0 || worker >= 1<<m.order {
		return api.ErrArg
	}
	if m.failed[worker] == failed {
		return e
	}
	m.failed[worker] = failed
	return api.OK
}

func (m *model) would(order int, gives []int) bool {
	trial := &model{m.order, slices.Clone(m.taken), m.failed}
	for _, start := range gives {
		trial.give(start)
	}
	return order >= 0 && order <= m.order && trial.choose(order) >= 0
}

func (m *model) failedList() []int {
	l := []int{}
	for w, failed := range m.failed {
		if failed {
			l = append(l, w)
		}
	}
	return l
}

func (m *model) takenList() []api.Block {
	l := slices.Clone(m.taken)
	slices.SortFunc(l, func(a, b api.Block) int { return a.Start - b.Start })
	return l
}
