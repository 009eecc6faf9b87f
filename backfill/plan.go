package backfill

import (
	"ganger/api"
)

// place finds a slot for a job, if there is one for it.
type place func(b *board, w api.Want, now int) (api.Slot, bool)

// policy is by what the plans differ.
type policy struct {
	begin place // for the jobs up to the first one that finds none
	wait  place // for that one
	after place // for those after it
}

// FIFO starts jobs one after the other.
func FIFO(s api.Scene, l []api.Want, now int) ([]api.Slot, api.Errno) {
	return plan(s, l, now, policy{begin: startNow, wait: none, after: none})
}

// Easy starts jobs that do not delay the first one that waits.
func Easy(s api.Scene, l []api.Want, now int) ([]api.Slot, api.Errno) {
	return plan(s, l, now, policy{begin: startNow, wait: promise, after: startNow})
}

// Conservative promises each job a block.
func Conservative(s api.Scene, l []api.Want, now int) ([]api.Slot, api.Errno) {
	return plan(s, l, now, policy{begin: promise, wait: none, after: none})
}

// startNow finds a slot that begins now.
func startNow(b *board, w api.Want, now int) (api.Slot, bool) {
	start, ok := b.at(w.Order, now, now+w.Length)
	return slotOf(w, start, now), ok
}

// promise finds the earliest slot.
func promise(b *board, w api.Want, now int) (api.Slot, bool) {
	tick, start, ok := b.earliest(w.Order, now, w.Length)
	return slotOf(w, start, tick), ok
}

func none(*board, api.Want, int) (api.Slot, bool) {
	return api.Slot{}, false
}

func slotOf(w api.Want, start int, tick int) api.Slot {
	return api.Slot{ID: w.ID, Block: api.Block{Start: start, Order: w.Order}, At: tick}
}

// plan gives the jobs slots, by a policy.
func plan(s api.Scene, l []api.Want, now int, p policy) ([]api.Slot, api.Errno) {
	if e := check(s, l, now); e != api.OK {
		return nil, e
	}
	b := newBoard(s)
	find, waits := p.begin, false
	slots := []api.Slot{}
	for _, w := range l {
		if !b.mayEver(w) {
			continue
		}
		slot, ok := find(b, w, now)
		if !ok && !waits {
			find, waits = p.after, true
			slot, ok = p.wait(b, w, now)
		}
		if ok {
			slots = append(slots, slot)
			b.hold(api.Held{Block: slot.Block, From: slot.At, To: slot.At + w.Length})
		}
	}
	return slots, api.OK
}

func check(s api.Scene, l []api.Want, now int) api.Errno {
	if Check(s) != api.OK || !within(now, 0, api.MaxTime) || len(l) > api.MaxHeld {
		return api.ErrArg
	}
	for _, w := range l {
		if w.Order < 0 || !within(w.Length, 1, api.MaxTime) {
			return api.ErrArg
		}
	}
	return api.OK
}

// mayEver reports whether a job could get a block, if it waited long enough: after the last tick
// at which something is held, only failed workers keep it from that.
func (b *board) mayEver(w api.Want) bool {
	return w.Order <= b.order && b.newMarks(w.Order).free > 0
}
