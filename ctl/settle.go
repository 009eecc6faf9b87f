package ctl

import (
	"slices"

	"ganger/api"
	"ganger/backfill"
	"ganger/book"
	"ganger/num"
	"ganger/prio"
	"ganger/share"
	"ganger/waits"
)

// settling is what is known while the controller settles.
type settling struct {
	*Ctl
	jobs    []api.Job           // all, as they are now
	factors []int               // of the accounts; computed when they are needed first
	passed  map[uint32]struct{} // candidates that are not considered again
}

// settle ends what can never start, starts what may start now, and lets jobs take turns.
func (x *Ctl) settle() {
	s := &settling{Ctl: x, jobs: x.endNever(), passed: map[uint32]struct{}{}}
	startOne := s.startPlanned
	if x.isGang() {
		startOne = s.startPlaced
	}
	for part := range x.conf.Parts {
		clear(s.passed)
		for startOne(part) {
		}
	}
	if x.isGang() {
		s.alternate()
	}
}

// endNever ends what can never start, and returns all jobs as they are then.
func (x *Ctl) endNever() []api.Job {
	for {
		l := x.all()
		never := waits.Never(l)
		if len(never) == 0 {
			return l
		}
		for _, id := range never {
			x.table.Never(id)
		}
	}
}

// start lets a job run on a block that was taken for it.
func (s *settling) start(id uint32, b api.Block) {
	s.table.Start(id, s.now, b)
	s.jobs[id-1], _ = s.table.Get(id)
}

// startPlanned starts the first job that its plan starts now, and reports whether there was one.
func (s *settling) startPlanned(part int) bool {
	candidates := s.candidates(part)
	if len(candidates) == 0 {
		return false
	}
	plans := [...]func(api.Scene, []api.Want, int) ([]api.Slot, api.Errno){
		api.PolicyFIFO:         backfill.FIFO,
		api.PolicyEasy:         backfill.Easy,
		api.PolicyConservative: backfill.Conservative,
	}
	wants := []api.Want{}
	for _, j := range candidates[:min(len(candidates), api.MaxHeld)] {
		wants = append(wants, api.Want{ID: j.ID, Order: order(j), Length: j.Spec.Limit})
	}
	slots, e := plans[s.conf.Policy](s.scene(part), wants, s.now)
	if e != api.OK {
		return false
	}
	at := slices.IndexFunc(slots, func(slot api.Slot) bool { return slot.At == s.now })
	if at < 0 || s.yards[part].TakeAt(slots[at].Block) != api.OK {
		return false
	}
	s.start(slots[at].ID, slots[at].Block)
	return true
}

// scene returns what of a partition is held.
func (s *settling) scene(part int) api.Scene {
	scene := api.Scene{Order: s.conf.Parts[part].Order, Failed: s.yards[part].Failed()}
	for _, j := range s.jobs {
		if j.Part == part && holds(j) {
			to := max(j.Started+j.Spec.Limit, s.now+1)
			scene.L = append(scene.L, api.Held{Block: j.Block, From: j.Started, To: to})
		}
	}
	return scene
}

// startPlaced starts the first job that gets a cell without failed workers, and reports whether there was one.
func (s *settling) startPlaced(part int) bool {
	m, failed := s.matrices[part], s.yards[part].Failed()
	for _, j := range s.candidates(part) {
		if _, passed := s.passed[j.ID]; passed {
			continue
		}
		cell, e := m.Place(j.ID, order(j))
		if e != api.OK {
			continue
		}
		if slices.ContainsFunc(failed, func(worker int) bool { return contains(cell.Block, worker) }) {
			m.Remove(j.ID)
			s.passed[j.ID] = struct{}{}
			continue
		}
		s.start(j.ID, cell.Block)
		return true
	}
	return false
}

// candidates returns the jobs of a partition that may start, ranked.
func (s *settling) candidates(part int) []api.Job {
	asked := []api.Asked{}
	for _, id := range waits.Ready(s.jobs, s.now) {
		if j := s.jobs[id-1]; j.Part == part {
			asked = append(asked, s.asked(j))
		}
	}
	keys, _ := prio.Keys(s.conf.Weights, asked, s.now, 1<<s.conf.Parts[part].Order)
	ranked := []api.Job{}
	for _, k := range keys {
		ranked = append(ranked, s.jobs[k.ID-1])
	}
	return ranked
}

// asked returns by what a job is ranked.
func (s *settling) asked(j api.Job) api.Asked {
	if s.factors == nil {
		s.factors = s.accountFactors()
	}
	class := slices.IndexFunc(s.conf.Classes, func(c api.Class) bool { return c.Name == j.Spec.QOS })
	account := slices.IndexFunc(s.conf.Accounts, func(a api.Account) bool { return a.Name == j.Spec.Account })
	return api.Asked{
		ID:     j.ID,
		Since:  j.Since,
		Size:   1 << order(j),
		Nice:   j.Spec.Nice,
		QOS:    s.conf.Classes[class].Prio,
		Part:   s.conf.Parts[j.Part].Prio,
		Factor: s.factors[account],
	}
}

// accountFactors returns the factors of all accounts, as their usage counts now.
func (x *Ctl) accountFactors() []int {
	own := []int{}
	for _, a := range x.conf.Accounts {
		n, _ := book.Usage(x.book, a.Name, x.now, x.conf.Half)
		own = append(own, n)
	}
	factors, _ := share.Factors(x.conf.Accounts, own)
	return factors
}

// order returns the order of the block that a job needs.
func order(j api.Job) int {
	_, exponent := num.Up(j.Spec.Size)
	return exponent
}

// alternate suspends and resumes jobs, as the rows of the matrices say.
func (s *settling) alternate() {
	runs := [][]uint32{}
	for _, m := range s.matrices {
		runs = append(runs, m.Runs())
	}
	for _, j := range s.jobs {
		_, mayRun := slices.BinarySearch(runs[j.Part], j.ID)
		switch {
		case j.How == api.JobRunning && !mayRun:
			s.table.Suspend(j.ID, s.now)
		case j.How == api.JobSuspended && mayRun:
			s.table.Resume(j.ID, s.now)
		}
	}
}
