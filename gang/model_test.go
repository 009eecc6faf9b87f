package gang_test

import (
	"slices"

	"ganger/api"
)

// model is a matrix told column by column: who has it, in which row (0: nobody).
type model struct {
	order  int
	active int
	rows   [api.MaxRows][]uint32
	blocks map[uint32]api.Block
}

func newModel(order int) *model {
	m := &model{order: order, blocks: map[uint32]api.Block{}}
	for i := range m.rows {
		m.rows[i] = make([]uint32, 1<<order)
	}
	return m
}

func (m *model) rowOf(id uint32) int {
	return slices.IndexFunc(m.rows[:], func(row []uint32) bool { return slices.Contains(row, id) })
}

func (m *model) has(row int) bool {
	return slices.ContainsFunc(m.rows[row], func(id uint32) bool { return id != 0 })
}

func (m *model) height() int {
	n := 0
	for row := range m.rows {
		if m.has(row) {
			n = row + 1
		}
	}
	return n
}

func (m *model) span(row int, b api.Block) []uint32 {
	return m.rows[row][b.Start : b.Start+1<<b.Order]
}

func empty(l []uint32) bool {
	return !slices.ContainsFunc(l, func(id uint32) bool { return id != 0 })
}

func fill(l []uint32, id uint32) {
	for i := range l {
		l[i] = id
	}
}

func (m *model) place(id uint32, order int) (api.Cell, api.Errno) {
	if id == 0 || order < 0 || order > m.order {
		return api.Cell{}, api.ErrArg
	}
	if m.rowOf(id) >= 0 {
		return api.Cell{}, api.ErrTwice
	}
	for row := range m.rows {
		for start := 0; start < 1<<m.order; start += 1 << order {
			b := api.Block{Start: start, Order: order}
			if empty(m.span(row, b)) {
				fill(m.span(row, b), id)
				m.blocks[id] = b
				return api.Cell{ID: id, Row: row, Block: b}, api.OK
			}
		}
	}
	return api.Cell{}, api.ErrFull
}

func (m *model) remove(id uint32) api.Errno {
	row := m.rowOf(id)
	if id == 0 || row < 0 {
		return api.ErrNone
	}
	fill(m.span(row, m.blocks[id]), 0)
	if m.active >= m.height() {
		m.active = 0
	}
	return api.OK
}

func (m *model) turn() {
	m.active++
	if m.active >= m.height() {
		m.active = 0
	}
}

// line are the jobs of a row, by start.
func (m *model) line(row int) []uint32 {
	return slices.DeleteFunc(slices.Compact(slices.Clone(m.rows[row])), func(id uint32) bool { return id == 0 })
}

func (m *model) unify() int {
	moved := 0
	for row := range m.rows {
		for _, id := range m.line(row) {
			for to := range row {
				if empty(m.span(to, m.blocks[id])) {
					fill(m.span(row, m.blocks[id]), 0)
					fill(m.span(to, m.blocks[id]), id)
					moved++
					break
				}
			}
		}
	}
	active, kept := 0, 0
	for row := range m.rows {
		if m.has(row) {
			if row == m.active {
				active = kept
			}
			m.rows[kept], m.rows[row] = m.rows[row], m.rows[kept]
			kept++
		}
	}
	m.active = active
	return moved
}

func (m *model) cells() []api.Cell {
	l := []api.Cell{}
	for row := range m.rows {
		for _, id := range m.line(row) {
			l = append(l, api.Cell{ID: id, Row: row, Block: m.blocks[id]})
		}
	}
	return l
}

func (m *model) runs() []uint32 {
	used := make([]uint32, 1<<m.order)
	ids := []uint32{}
	for i := range m.height() {
		row := (m.active + i) % m.height()
		for _, id := range m.line(row) {
			b := m.blocks[id]
			if here := used[b.Start : b.Start+1<<b.Order]; empty(here) {
				fill(here, id)
				ids = append(ids, id)
			}
		}
	}
	slices.Sort(ids)
	return ids
}

func (m *model) idle(row int) int {
	if row < 0 {
		return 0
	}
	n := 1 << m.order
	if row < len(m.rows) {
		for _, id := range m.rows[row] {
			if id != 0 {
				n--
			}
		}
	}
	return n
}
