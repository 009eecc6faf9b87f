package backfill_test

import (
	"slices"

	"ganger/api"
)

// The model counts the ticks and the workers one by one, as the chapter tells it.

func modelFree(s api.Scene, b api.Block, from, to int) bool {
	if b.Order < 0 || b.Order > s.Order || b.Start < 0 || b.Start+1<<b.Order > 1<<s.Order || b.Start%(1<<b.Order) != 0 || from < 0 || to <= from {
		return false
	}
	for w := b.Start; w < b.Start+1<<b.Order; w++ {
		if slices.Contains(s.Failed, w) {
			return false
		}
		for _, h := range s.L {
			if w < h.Block.Start || w >= h.Block.Start+1<<h.Block.Order {
				continue
			}
			for t := from; t < to; t++ {
				if t >= h.From && t < h.To {
					return false
				}
			}
		}
	}
	return true
}

func modelAt(s api.Scene, order, from, to int) (int, bool) {
	if order < 0 || order > s.Order {
		return 0, false
	}
	for start := 0; start < 1<<s.Order; start += 1 << order {
		if modelFree(s, api.Block{Start: start, Order: order}, from, to) {
			return start, true
		}
	}
	return 0, false
}

func modelEarliest(s api.Scene, order, from, length int) (int, int, api.Errno) {
	ticks := []int{from}
	for _, h := range s.L {
		if h.To > from {
			ticks = append(ticks, h.To)
		}
	}
	slices.Sort(ticks)
	for _, tick := range ticks {
		if start, ok := modelAt(s, order, tick, tick+length); ok {
			return tick, start, api.OK
		}
	}
	return 0, 0, api.ErrFull
}

const (
	fifo = iota
	easy
	conservative
)

func modelPlan(policy int, s api.Scene, l []api.Want, now int) []api.Slot {
	scene := s
	scene.L = slices.Clone(s.L)
	slots := []api.Slot{}
	waits := false
	for _, w := range l {
		if w.Order > s.Order {
			continue
		}
		if _, _, e := modelEarliest(s, w.Order, now, w.Length); e == api.ErrFull {
			continue
		}
		tick := now
		start, ok := modelAt(scene, w.Order, now, now+w.Length)
		if !ok && policy == fifo {
			break
		}
		if !ok && (policy == conservative || !waits) {
			waits = true
			tick, start, _ = modelEarliest(scene, w.Order, now, w.Length)
			ok = true
		}
		if !ok {
			continue
		}
		b := api.Block{Start: start, Order: w.Order}
		slots = append(slots, api.Slot{ID: w.ID, Block: b, At: tick})
		scene.L = append(scene.L, api.Held{Block: b, From: tick, To: tick + w.Length})
	}
	return slots
}
