package jobs

import (
	"slices"

	"ganger/api"
	"ganger/num"
)

// change is what a call does to a job.
type change struct {
	from   []int                     // the states in which it may
	suits  func(j api.Job) bool      // whether the arguments may be, if there are some
	refuse func(j api.Job) api.Errno // the error after all others, if there is one
	effect func(j *api.Job)
}

// apply makes a change, or returns the error why not.
func (t *Table) apply(id uint32, c change) api.Errno {
	if t == nil {
		return api.ErrNil
	}
	j := t.find(id)
	switch {
	case j == nil:
		return api.ErrNone
	case c.suits != nil && !c.suits(*j):
		return api.ErrArg
	case !slices.Contains(c.from, j.How):
		return api.ErrState
	}
	if c.refuse != nil {
		if e := c.refuse(*j); e != api.OK {
			return e
		}
	}
	c.effect(j)
	return api.OK
}

// notBefore tells whether a call may be made now.
func notBefore(now int) func(j api.Job) bool {
	return func(j api.Job) bool { return now >= j.Since && now >= j.Started && now <= api.MaxTime }
}

// stop counts the time since the job was started last, if it runs.
func stop(j *api.Job, now int) {
	if j.How == api.JobRunning {
		j.Ran = num.Sum(j.Ran, now-j.Started)
	}
}

// Hold keeps a job that waits from starting.
func (t *Table) Hold(id uint32) api.Errno {
	return t.apply(id, change{
		from:   []int{api.JobWaiting},
		effect: func(j *api.Job) { j.How = api.JobHeld },
	})
}

// Release lets a job wait that is held.
func (t *Table) Release(id uint32, now int) api.Errno {
	return t.apply(id, change{
		from:   []int{api.JobHeld},
		suits:  notBefore(now),
		effect: func(j *api.Job) { j.How, j.Since = api.JobWaiting, now },
	})
}

// Start lets a job run on a block.
func (t *Table) Start(id uint32, now int, b api.Block) api.Errno {
	return t.apply(id, change{
		from:  []int{api.JobWaiting},
		suits: func(j api.Job) bool { return notBefore(now)(j) && isBlock(b, j.Spec.Size) },
		effect: func(j *api.Job) {
			j.How, j.Started, j.Ran, j.Block = api.JobRunning, now, 0, b
			j.Runs++
		},
	})
}

// isBlock reports whether b is a block for that many workers.
func isBlock(b api.Block, size int) bool {
	workers, order := num.Up(size)
	return b.Order == order && b.Start >= 0 && b.Start < 1<<api.MaxOrder && b.Start%workers == 0
}

// Suspend lets a job rest that runs.
func (t *Table) Suspend(id uint32, now int) api.Errno {
	return t.apply(id, change{
		from:  []int{api.JobRunning},
		suits: notBefore(now),
		effect: func(j *api.Job) {
			stop(j, now)
			j.How = api.JobSuspended
		},
	})
}

// Resume lets a job run on.
func (t *Table) Resume(id uint32, now int) api.Errno {
	return t.apply(id, change{
		from:   []int{api.JobSuspended},
		suits:  notBefore(now),
		effect: func(j *api.Job) { j.How, j.Started = api.JobRunning, now },
	})
}

// End ends a job.
func (t *Table) End(id uint32, now int, how int) api.Errno {
	from := []int{api.JobRunning, api.JobSuspended}
	if how == api.JobCancelled {
		from = append(from, api.JobWaiting, api.JobHeld)
	}
	return t.apply(id, change{
		from:  from,
		suits: func(j api.Job) bool { return notBefore(now)(j) && how >= api.JobDone && how <= api.JobLate },
		effect: func(j *api.Job) {
			stop(j, now)
			j.How = how
		},
	})
}

// Requeue lets a job wait again.
func (t *Table) Requeue(id uint32, now int) api.Errno {
	return t.apply(id, change{
		from:  []int{api.JobRunning, api.JobSuspended},
		suits: notBefore(now),
		refuse: func(j api.Job) api.Errno {
			if j.Runs > t.conf.Requeues {
				return api.ErrFull
			}
			return api.OK
		},
		effect: func(j *api.Job) { j.How, j.Since, j.Ran, j.Block = api.JobWaiting, now, 0, api.Block{} },
	})
}

// Never ends a job that can never start.
func (t *Table) Never(id uint32) api.Errno {
	return t.apply(id, change{
		from:   []int{api.JobWaiting, api.JobHeld},
		effect: func(j *api.Job) { j.How = api.JobNever },
	})
}
