package ctl_test

import (
	"slices"
	"strconv"
	"testing"

	"ganger/api"
)

func TestJobsTakeTurns(t *testing.T) {
	x := controller(t, config(api.PolicyGang, 1))
	all(t, x, sized(2, 25), sized(2, 25))
	states(t, x, r, s)
	if j := get(t, x, 2); j.Started != 0 || j.Runs != 1 || j.Ran != 0 {
		t.Error(j)
	}
	block(t, x, 2, 0, 1)
	all(t, x, "tick 9")
	states(t, x, r, s)
	all(t, x, "tick 1")
	states(t, x, s, r)
	if j := get(t, x, 1); j.Ran != 10 {
		t.Error(j)
	}
	all(t, x, "tick 10")
	states(t, x, r, s)
	all(t, x, "tick 10")
	states(t, x, s, r)
	all(t, x, "tick 10")
	states(t, x, r, s)
	if a, b := get(t, x, 1), get(t, x, 2); a.Ran != 20 || b.Ran != 20 || a.Started != 40 {
		t.Error(a, b)
	}
	all(t, x, "tick 5")
	states(t, x, api.JobLate, r)
	all(t, x, "tick 5")
	states(t, x, api.JobLate, api.JobLate)
	charges(t, x, "1 root 2x25 late 45", "2 root 2x25 late 50")
}

func TestAllMatricesTurn(t *testing.T) {
	c := config(api.PolicyGang, 0)
	c.Quantum = 3
	c.Parts = append(c.Parts, api.Part{Name: "b", Order: 0, Limit: 99})
	x := controller(t, c)
	all(t, x, "tick 2")
	for range 2 {
		all(t, x, sized(1, 50), sized(1, 50, "partition=b"))
	}
	runs(t, x, 1, 2)
	all(t, x, "tick 1")
	runs(t, x, 3, 4)
	all(t, x, "tick 2")
	runs(t, x, 3, 4)
	all(t, x, "tick 1")
	runs(t, x, 1, 2)
}

func TestIdleWorkersAreUsedByOtherRows(t *testing.T) {
	x := controller(t, config(api.PolicyGang, 2))
	all(t, x, sized(4, 90), sized(2, 90), sized(1, 90))
	states(t, x, r, s, s)
	all(t, x, sized(2, 90), sized(2, 90))
	// The rows are 1; 2, 3 and a gap; 4 and 5, of which 5 has the block of the gap.
	states(t, x, r, s, s, s, s)
	all(t, x, "tick 10")
	states(t, x, s, r, r, s, s)
	all(t, x, "cancel 3")
	states(t, x, s, r, api.JobCancelled, s, r)
	all(t, x, "tick 10")
	states(t, x, s, s, api.JobCancelled, r, r)
	charges(t, x, "3 root 1x0 cancelled 10")
}

func TestSuspendedJobs(t *testing.T) {
	x := controller(t, config(api.PolicyGang, 0))
	all(t, x, sized(1, 90), sized(1, 90), sized(1, 90), "tick 12")
	states(t, x, s, r, s)
	for _, name := range []string{"done ", "failed ", "hold ", "release "} {
		do(t, x, name+"1", "error 130")
	}
	do(t, x, "cancel 1", "ok")
	do(t, x, "requeue 3", "ok")
	states(t, x, api.JobCancelled, r, s)
	if j := get(t, x, 3); j.Runs != 2 || j.Since != 12 || j.Started != 12 {
		t.Error(j)
	}
	charges(t, x, "1 root 1x10 cancelled 12", "3 root 1x0 requeued 12")
	do(t, x, "done 2", "ok")
	states(t, x, api.JobCancelled, api.JobDone, r)
	charges(t, x, "1 root 1x10 cancelled 12", "3 root 1x0 requeued 12", "2 root 1x2 done 12")
}

func TestFailedWorkersUnderGang(t *testing.T) {
	x := controller(t, config(api.PolicyGang, 1))
	all(t, x, "down main 1", sized(2, 50), sized(1, 50), sized(1, 50))
	// 1 would have the failed worker, and so would 3, beside 2.
	states(t, x, w, r, w)
	all(t, x, "tick 3")
	states(t, x, w, r, w)
	all(t, x, "up main 1")
	states(t, x, s, r, r)
	block(t, x, 3, 1, 0)
	all(t, x, "tick 7")
	states(t, x, r, s, s)
	all(t, x, "down main 0")
	states(t, x, api.JobFailed, api.JobFailed, r)
	charges(t, x, "1 root 2x0 failed 10", "2 root 1x10 failed 10")
}

func TestACandidateThatWasPassedIsConsideredLater(t *testing.T) {
	x := controller(t, config(api.PolicyGang, 1))
	all(t, x, sized(1, 50), "down main 1", sized(1, 20, "requeue"))
	states(t, x, r, w)
	all(t, x, "tick 1", "done 1")
	states(t, x, api.JobDone, r)
	block(t, x, 2, 0, 0)
	all(t, x, "down main 0")
	states(t, x, api.JobDone, w)
	charges(t, x, "1 root 1x1 done 1", "2 root 1x0 requeued 1")
	all(t, x, "up main 0", "tick 20")
	charges(t, x, "1 root 1x1 done 1", "2 root 1x0 requeued 1", "2 root 1x20 late 21")
}

func TestFullMatrix(t *testing.T) {
	x := controller(t, config(api.PolicyGang, 1))
	for range api.MaxRows - 1 {
		all(t, x, sized(2, 50))
	}
	all(t, x, sized(1, 50), sized(2, 50), sized(1, 50))
	for id, want := range map[uint32]int{15: s, 16: s, 17: w, 18: s} {
		if j := get(t, x, id); j.How != want {
			t.Error(id, j.How)
		}
	}
	block(t, x, 18, 1, 0)
	all(t, x, "cancel 3")
	if j := get(t, x, 17); j.How != s || j.Started != 0 {
		t.Error(j.How)
	}
}

func TestPriorityUnderGang(t *testing.T) {
	x := controller(t, config(api.PolicyGang, 1))
	all(t, x, sized(2, 50, "hold"), sized(1, 50, "nice=5", "hold"), sized(1, 50, "hold", "nice=-1"), "tick 2", "down main 0", "release 1", "release 2", "release 3")
	states(t, x, w, w, w)
	all(t, x, "up main 0")
	states(t, x, s, r, r)
	block(t, x, 3, 0, 0)
	block(t, x, 2, 1, 0)
}

func TestArraysUnderGang(t *testing.T) {
	x := controller(t, config(api.PolicyGang, 0))
	all(t, x, sized(1, 5, "array=1-4%2"))
	// A suspended job counts as well.
	states(t, x, r, s, w, w)
	all(t, x, "tick 5") // 3 gets the active row, in which 1 was
	states(t, x, api.JobLate, s, r, w)
	all(t, x, "tick 15")
	states(t, x, api.JobLate, api.JobLate, api.JobLate, api.JobLate)
}

func TestEveryJobHasItsTurn(t *testing.T) {
	c := config(api.PolicyGang, 3)
	c.Quantum = 1
	x := controller(t, c)
	for i := range 40 {
		all(t, x, sized(1+i*5%8, 1000))
	}
	ran := map[uint32]int{}
	for range api.MaxRows {
		all(t, x, "tick 1")
		for _, id := range x.Runs() {
			ran[id]++
		}
	}
	for id := range uint32(40) {
		if j := get(t, x, id+1); j.How != w && ran[id+1] == 0 {
			t.Error("within as many quanta as there are rows this one has not run:", j.ID)
		}
	}
}

func TestFailedWorkersEndJobsOfAllRowsInOrder(t *testing.T) {
	x := controller(t, config(api.PolicyGang, 2))
	want := []string{}
	for id := 1; id <= 5; id++ {
		all(t, x, sized(4, 50))
		want = append(want, strconv.Itoa(id)+" root 4x0 failed 0")
	}
	all(t, x, "down main 2")
	charges(t, x, want...)
	if !slices.Equal(x.Failed(0), []int{2}) {
		t.Error(x.Failed(0))
	}
}
