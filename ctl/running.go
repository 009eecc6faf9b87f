package ctl

import (
	"ganger/api"
	"ganger/num"
)

// holds reports whether a job holds its block.
func holds(j api.Job) bool {
	return j.How == api.JobRunning || j.How == api.JobSuspended
}

func contains(b api.Block, worker int) bool {
	return worker >= b.Start && worker < b.Start+1<<b.Order
}

// ran returns for how many seconds a job has run till now.
func (x *Ctl) ran(j api.Job) int {
	if j.How != api.JobRunning {
		return j.Ran
	}
	return num.Sum(j.Ran, x.now-j.Started)
}

// end ends a job.
func (x *Ctl) end(id uint32, how int) api.Errno {
	j, _ := x.table.Get(id)
	e := x.table.End(id, x.now, how)
	if e == api.OK {
		x.leave(j, how)
	}
	return e
}

// requeue lets a job wait again.
func (x *Ctl) requeue(id uint32) api.Errno {
	j, _ := x.table.Get(id)
	e := x.table.Requeue(id, x.now)
	if e == api.OK {
		x.leave(j, 0)
	}
	return e
}

// leave takes a job's block away, and charges it; j is the job as it was before.
func (x *Ctl) leave(j api.Job, how int) {
	if !holds(j) {
		return
	}
	if x.isGang() {
		x.matrices[j.Part].Remove(j.ID)
	} else {
		x.yards[j.Part].Give(j.Block.Start)
	}
	if len(x.book) < api.MaxCharges {
		x.book = append(x.book, api.Charge{
			ID:      j.ID,
			Account: j.Spec.Account,
			Workers: 1 << j.Block.Order,
			Seconds: x.ran(j),
			How:     how,
			At:      x.now,
		})
	}
}

// pass lets a tick pass.
func (x *Ctl) pass() {
	x.now++
	for _, id := range x.table.List(api.JobRunning) {
		if j, _ := x.table.Get(id); x.ran(j) >= j.Spec.Limit {
			x.end(id, api.JobLate)
		}
	}
	if x.isGang() && x.now%x.conf.Quantum == 0 {
		for _, m := range x.matrices {
			m.Turn()
		}
	}
}
