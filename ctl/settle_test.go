package ctl_test

import (
	"strconv"
	"testing"

	"ganger/api"
	"ganger/ctl"
)

const (
	w = api.JobWaiting
	h = api.JobHeld
	r = api.JobRunning
	s = api.JobSuspended
)

func TestPoliciesFillGaps(t *testing.T) {
	for policy, want := range [][]int{
		api.PolicyFIFO:         {r, w, w, w},
		api.PolicyEasy:         {r, w, r, w},
		api.PolicyConservative: {r, w, r, w},
	} {
		if want == nil {
			continue
		}
		x := controller(t, config(policy, 2))
		all(t, x, sized(2, 10), sized(4, 5), sized(2, 10), sized(1, 20))
		states(t, x, want...)
		all(t, x, "tick 9")
		states(t, x, want...)
		all(t, x, "tick 1")
		if j := get(t, x, 2); j.How != r || j.Started != 10 {
			t.Error(policy, j)
		}
		all(t, x, "tick 5")
		if j := get(t, x, 4); j.How != r || j.Started != 15 {
			t.Error(policy, j)
		}
		if j := get(t, x, 3); policy == api.PolicyFIFO && j.Started != 15 || policy != api.PolicyFIFO && j.How != api.JobLate {
			t.Error(policy, j)
		}
	}
}

func TestConservativeDelaysNobody(t *testing.T) {
	for policy, want := range map[int]int{api.PolicyEasy: r, api.PolicyConservative: w, api.PolicyFIFO: w} {
		x := controller(t, config(policy, 3))
		// 3 is promised the lower half at 10, and 4 all workers at 30; 5 would delay 4 alone.
		all(t, x, sized(4, 10), sized(2, 30), sized(4, 10), sized(8, 5), sized(2, 100))
		states(t, x, r, r, w, w, want)
		all(t, x, "tick 10")
		block(t, x, 3, 0, 2)
		all(t, x, "tick 25")
		start := 0
		if policy == api.PolicyEasy {
			start = 100
			all(t, x, "tick 65")
		} else {
			start = 30
		}
		if j := get(t, x, 4); j.Started != start {
			t.Error(policy, j)
		}
	}
}

func TestAJobThatNoBlockFitsDelaysNobody(t *testing.T) {
	for _, policy := range []int{api.PolicyFIFO, api.PolicyEasy, api.PolicyConservative} {
		x := controller(t, config(policy, 1))
		all(t, x, "down main 0", sized(2, 5), sized(1, 7), sized(1, 7))
		states(t, x, w, r, w)
		block(t, x, 2, 1, 0)
		all(t, x, "tick 3", "up main 0")
		if policy == api.PolicyFIFO {
			states(t, x, w, r, w)
		}
		all(t, x, "tick 30")
		states(t, x, api.JobLate, api.JobLate, api.JobLate)
	}
}

// firstOf tells which of two jobs starts first, when the only worker gets free.
func firstOf(t *testing.T, c api.Conf, before []string, a, b string) int {
	t.Helper()
	x := controller(t, c)
	all(t, x, before...)
	all(t, x, sized(1<<c.Parts[0].Order, 1000, "job-name=blocker"))
	blocker := uint32(x.Jobs())
	all(t, x, a, b)
	states(t, x, statesOf(x, blocker, r, w, w)...)
	all(t, x, "done "+strconv.Itoa(int(blocker)))
	for i := range 2 {
		if get(t, x, blocker+uint32(i+1)).How == r {
			return i + 1
		}
	}
	t.Fatal("none starts")
	return 0
}

// statesOf are the states as they are up to a job, and those that are wanted from it on.
func statesOf(x *ctl.Ctl, from uint32, want ...int) []int {
	l := []int{}
	for id := uint32(1); id < from; id++ {
		j, _ := x.Job(id)
		l = append(l, j.How)
	}
	return append(l, want...)
}

func wantFirst(t *testing.T, c api.Conf, before []string, a, b string, want int) {
	t.Helper()
	if got := firstOf(t, c, before, a, b); got != want {
		t.Errorf("%q, %q: %d starts first", a, b, got)
	}
}

func TestRankByTimeAndNumber(t *testing.T) {
	c := config(api.PolicyFIFO, 0)
	wantFirst(t, c, nil, job(), job(), 1)
	x := controller(t, c)
	all(t, x, sized(1, 10), sized(1, 10, "hold"), "tick 2", sized(1, 10), "tick 2", "release 2", "tick 6")
	states(t, x, api.JobLate, w, r)
}

func TestRankByNice(t *testing.T) {
	c := config(api.PolicyFIFO, 0)
	wantFirst(t, c, nil, job("nice=1"), job(), 2)
	wantFirst(t, c, nil, job(), job("nice=-1"), 2)
	wantFirst(t, c, nil, job("nice=-1"), job(), 1)
	wantFirst(t, c, nil, job("nice=10000"), job("nice=10000"), 1)
}

func TestRankBySize(t *testing.T) {
	c := config(api.PolicyFIFO, 2)
	wantFirst(t, c, nil, job("size=3"), job("size=4"), 1)
	c.Weights.Size = 100
	wantFirst(t, c, nil, job("size=1"), job("size=4"), 2)
	// What counts is the block of four, and the partition has four workers: the priorities are 99 and 100.
	wantFirst(t, c, nil, job("size=4", "nice=1"), job("size=3"), 2)
	wantFirst(t, c, nil, job("size=4"), job("size=3", "nice=1"), 1)
	// The priorities are 25 and 40.
	wantFirst(t, c, nil, job("size=1"), job("size=4", "nice=60"), 2)
	c.Weights.Size = 4
	wantFirst(t, c, nil, job("size=3", "nice=2"), job("size=4", "nice=3"), 1)
}

func TestRankByClass(t *testing.T) {
	c := config(api.PolicyFIFO, 0)
	c.Classes = []api.Class{{Name: "normal", Prio: 5, Most: 9}, {Name: "high", Prio: api.MaxWeight / 2, Most: 9}}
	wantFirst(t, c, nil, job(), job("qos=high"), 1)
	c.Weights.QOS = 100
	wantFirst(t, c, nil, job(), job("qos=high"), 2)
	wantFirst(t, c, nil, job(), job("qos=high", "nice=49"), 2)
	wantFirst(t, c, nil, job(), job("qos=high", "nice=51"), 1)
}

func TestRankByAge(t *testing.T) {
	for _, x := range []struct{ weight, want int }{{0, 2}, {api.MaxWeight, 1}} {
		c := config(api.PolicyFIFO, 0)
		c.Weights.Age = x.weight
		y := controller(t, c)
		// The age of 1 counts 160 at 160, with the greater weight.
		all(t, y, sized(1, 160), sized(1, 5, "nice=100"), "tick 159", sized(1, 5), "tick 1")
		if got := y.Runs(); len(got) != 1 || int(got[0]) != x.want+1 {
			t.Error(x, got)
		}
	}
}

// accounts are two below the first one.
func accounts(fair int, sharesA int, sharesB int) api.Conf {
	c := config(api.PolicyFIFO, 0)
	c.Half = 100
	c.Weights.Fair = fair
	c.Accounts = []api.Account{{Name: "root", Shares: 1}, {Name: "a", Parent: "root", Shares: sharesA}, {Name: "b", Parent: "root", Shares: sharesB}}
	return c
}

func TestRankByFairShare(t *testing.T) {
	used := []string{sized(1, 30, "account=a"), "tick 30", sized(1, 10, "account=b"), "tick 10"}
	a, b := job("account=a"), job("account=b")
	wantFirst(t, accounts(0, 1, 1), used, a, b, 1)
	wantFirst(t, accounts(1000, 1, 1), used, a, b, 2)
	wantFirst(t, accounts(1000, 1, 1), used, b, a, 1)
	wantFirst(t, accounts(1000, 9, 1), used, b, a, 2)
	wantFirst(t, accounts(1000, 2, 2), nil, b, a, 1)
}

func TestUsageDecays(t *testing.T) {
	used := []string{sized(1, 100, "account=a"), "tick 400", sized(1, 20, "account=b"), "tick 20"}
	a, b := job("account=a"), job("account=b")
	wantFirst(t, accounts(1000, 1, 1), used, b, a, 2)
	c := accounts(1000, 1, 1)
	c.Half = 1 << 32
	wantFirst(t, c, used, b, a, 1)
}

func TestRequeuedJobsAreChargedTheirUsage(t *testing.T) {
	used := []string{sized(1, 100, "account=a"), "tick 50", "requeue 1", "cancel 1", sized(1, 20, "account=b"), "tick 20"}
	wantFirst(t, accounts(1000, 1, 1), used, job("account=a"), job("account=b"), 2)
}

func TestBegin(t *testing.T) {
	x := controller(t, config(api.PolicyEasy, 0))
	all(t, x, sized(1, 5, "begin=7"), "tick 6")
	states(t, x, w)
	all(t, x, sized(1, 1), "tick 1")
	states(t, x, r, api.JobLate)
	if j := get(t, x, 1); j.Started != 7 || j.Since != 0 {
		t.Error(j)
	}
}

func TestArrays(t *testing.T) {
	x := controller(t, config(api.PolicyEasy, 2))
	do(t, x, sized(1, 5, "array=0-3%2"), "ok 1 2 3 4")
	runs(t, x, 1, 2)
	all(t, x, sized(1, 9))
	runs(t, x, 1, 2, 5)
	all(t, x, "done 1")
	runs(t, x, 2, 3, 5)
	all(t, x, "tick 5")
	runs(t, x, 4, 5)
	do(t, x, "jobs", "ok\n1 job done 0\n2 job late 5\n3 job late 5\n4 job running 0\n5 job running 0")
}

func TestSingletons(t *testing.T) {
	x := controller(t, config(api.PolicyEasy, 2))
	all(t, x, sized(1, 5), sized(1, 5, "dependency=singleton"), sized(1, 5, "dependency=singleton", "job-name=x"), sized(1, 5, "dependency=singleton"))
	runs(t, x, 1, 3)
	all(t, x, "tick 5")
	runs(t, x, 2)
	all(t, x, "tick 5")
	runs(t, x, 4)
}

func TestDependencies(t *testing.T) {
	x := controller(t, config(api.PolicyEasy, 3))
	all(t, x, sized(1, 50), sized(1, 5, "dependency=after:1"), sized(1, 5, "dependency=afterok:1"), sized(1, 5, "dependency=afternotok:1"), sized(1, 5, "dependency=afterany:1"), sized(1, 5, "dependency=afterok:3", "hold"), sized(1, 5, "dependency=afternotok:6"))
	states(t, x, r, r, w, w, w, h, w)
	all(t, x, "failed 1")
	// 3 never starts, so neither does 6, though it is held; and so 7 does at once.
	states(t, x, api.JobFailed, r, api.JobNever, r, r, api.JobNever, r)
	all(t, x, sized(1, 5, "dependency=after:99"), sized(1, 5, "dependency=afterok:8"), sized(1, 5, "dependency=after:1"))
	states(t, x, api.JobFailed, r, api.JobNever, r, r, api.JobNever, r, api.JobNever, api.JobNever, r)
	charges(t, x, "1 root 1x0 failed 0")
}

func TestAJobWaitsForOneThatStartsNow(t *testing.T) {
	c := config(api.PolicyEasy, 1)
	c.Parts = append(c.Parts, api.Part{Name: "b", Order: 1, Limit: 99})
	x := controller(t, c)
	all(t, x, sized(1, 5, "hold"), sized(1, 5, "dependency=after:1"), sized(1, 5, "dependency=after:1", "partition=b"), "release 1")
	states(t, x, r, r, r)
	if get(t, x, 3).Part != 1 || get(t, x, 2).Part != 0 {
		t.Error("partitions")
	}
	// The first partition has settled when the job of the second one starts.
	x = controller(t, c)
	all(t, x, sized(1, 5, "hold", "partition=b"), sized(1, 5, "dependency=after:1"), "release 1")
	states(t, x, r, w)
	x.Do("jobs")
	x.Do("book")
	do(t, x, "hold 1", "error 130")
	states(t, x, r, w)
	all(t, x, "tick 1")
	states(t, x, r, r)
	x = controller(t, c)
	all(t, x, sized(1, 5, "begin=1", "partition=b"), sized(1, 5, "dependency=after:1"), "tick 1")
	states(t, x, r, w)
	all(t, x, "tick 1")
	states(t, x, r, r)
}

func TestAJobThatIsHeldDelaysNobody(t *testing.T) {
	for _, change := range []string{"hold 2", "cancel 2"} {
		x := controller(t, config(api.PolicyFIFO, 1))
		all(t, x, sized(1, 50), sized(2, 50), sized(1, 50))
		states(t, x, r, w, w)
		all(t, x, change)
		runs(t, x, 1, 3)
	}
}

func TestPartitionsAreIndependent(t *testing.T) {
	for _, policy := range []int{api.PolicyFIFO, api.PolicyEasy, api.PolicyConservative, api.PolicyGang} {
		c := config(policy, 1)
		c.Parts = append(c.Parts, api.Part{Name: "b", Order: 2, Limit: 99}, api.Part{Name: "c", Order: 0, Limit: 99})
		x := controller(t, c)
		all(t, x, "down b 0", sized(2, 50), sized(2, 50, "partition=b", "hold"), sized(1, 50, "partition=c"), "down c 0")
		states(t, x, r, h, api.JobFailed)
		all(t, x, "down main 0")
		states(t, x, api.JobFailed, h, api.JobFailed)
		all(t, x, "up b 0", "release 2")
		states(t, x, api.JobFailed, r, api.JobFailed)
		block(t, x, 2, 0, 1)
		for part, want := range []int{1, 0, 1, 0} {
			if got := len(x.Failed(part)); got != want {
				t.Error(part, got)
			}
		}
	}
}

func TestAFailedWorkerEndsItsJob(t *testing.T) {
	x := controller(t, config(api.PolicyEasy, 3))
	all(t, x, sized(2, 50), sized(2, 50, "requeue"), sized(1, 50), "tick 4", "down main 3")
	states(t, x, r, r, r)
	block(t, x, 2, 6, 1)
	charges(t, x, "2 root 2x4 requeued 4")
	if j := get(t, x, 2); j.Runs != 2 || j.Started != 4 || j.Ran != 0 || j.Since != 4 {
		t.Error(j)
	}
	all(t, x, "tick 1", "down main 0")
	states(t, x, api.JobFailed, r, r)
	all(t, x, "down main 5")
	states(t, x, api.JobFailed, r, r)
	all(t, x, "down main 4")
	states(t, x, api.JobFailed, r, api.JobFailed)
	charges(t, x, "2 root 2x4 requeued 4", "1 root 2x5 failed 5", "3 root 1x5 failed 5")
	all(t, x, "down main 6", "tick 2")
	states(t, x, api.JobFailed, w, api.JobFailed)
	all(t, x, "up main 0")
	block(t, x, 2, 0, 1)
	all(t, x, "down main 1") // it has run three times
	states(t, x, api.JobFailed, api.JobFailed, api.JobFailed)
	charges(t, x, "2 root 2x4 requeued 4", "1 root 2x5 failed 5", "3 root 1x5 failed 5", "2 root 2x1 requeued 5", "2 root 2x0 failed 7")
}

func TestWorkersPerCharge(t *testing.T) {
	x := controller(t, config(api.PolicyEasy, 3))
	all(t, x, sized(5, 3), "tick 3", sized(3, 4), sized(1, 2), "tick 4")
	charges(t, x, "1 root 8x3 late 3", "3 root 1x2 late 5", "2 root 4x4 late 7")
}

func TestLateJobsEndInOrder(t *testing.T) {
	x := controller(t, config(api.PolicyEasy, 2))
	all(t, x, sized(1, 3, "account=root", "nice=5"), sized(1, 3), sized(1, 2), "tick 5")
	charges(t, x, "3 root 1x2 late 2", "1 root 1x3 late 3", "2 root 1x3 late 3")
}

func TestTicksPassOneByOne(t *testing.T) {
	x := controller(t, config(api.PolicyEasy, 0))
	for range 5 {
		all(t, x, sized(1, 1))
	}
	all(t, x, "tick 5")
	charges(t, x, "1 root 1x1 late 1", "2 root 1x1 late 2", "3 root 1x1 late 3", "4 root 1x1 late 4", "5 root 1x1 late 5")
}

func TestOnlySoManyCandidatesAreConsidered(t *testing.T) {
	for _, n := range []int{api.MaxHeld - 1, api.MaxHeld} {
		x := controller(t, config(api.PolicyEasy, 1))
		// The jobs of the array want two workers, and there is one.
		all(t, x, "down main 1", sized(2, 5, "array=1-"+strconv.Itoa(n)), sized(1, 5))
		last := get(t, x, uint32(n+1))
		if (last.How == r) != (n < api.MaxHeld) {
			t.Error(n, last.How)
		}
	}
}

func TestASceneOfTooManyBlocksStartsNothing(t *testing.T) {
	for _, policy := range []int{api.PolicyFIFO, api.PolicyEasy, api.PolicyConservative} {
		x := controller(t, config(policy, 9))
		all(t, x, sized(1, 500, "array=1-400"))
		if n := len(x.Runs()); n != api.MaxHeld+1 {
			t.Error(policy, n)
		}
		all(t, x, "done 7")
		if n := len(x.Runs()); n != api.MaxHeld+1 || get(t, x, 302).How != r {
			t.Error(policy, n)
		}
	}
}
