package ctl_test

import (
	"fmt"
	"math/rand"
	"reflect"
	"slices"
	"testing"

	"ganger/api"
	"ganger/backfill"
	"ganger/book"
	"ganger/ctl"
	"ganger/spool"
	"ganger/tape"
)

// wide is a cluster with two partitions, in which everything counts.
func wide(policy int) api.Conf {
	return api.Conf{
		Policy: policy, Half: 50, Quantum: 4, Requeues: 3,
		Weights:  api.Weights{Fair: 1000, Age: 1000, Size: 500, QOS: 100, Part: 7},
		Parts:    []api.Part{{Name: "main", Order: 3, Prio: 5, Limit: 90}, {Name: "b", Order: 2, Limit: 50}},
		Classes:  []api.Class{{Name: "normal", Prio: 3, Most: 60}, {Name: "high", Prio: api.MaxWeight, Most: 30}},
		Accounts: []api.Account{{Name: "root", Shares: 1}, {Name: "ann", Parent: "root", Shares: 3}, {Name: "bob", Parent: "root", Shares: 1}},
	}
}

func pick[T any](rnd *rand.Rand, l ...T) T {
	return l[rnd.Intn(len(l))]
}

// randomJob submits a job that depends on jobs up to the last one.
func randomJob(rnd *rand.Rand, last int) string {
	options := []string{
		"partition=" + pick(rnd, "main", "main", "b"), "qos=" + pick(rnd, "normal", "normal", "high"), "account=" + pick(rnd, "root", "ann", "bob"),
		fmt.Sprintf("time=0:%d", 1+rnd.Intn(40)), fmt.Sprintf("size=%d", 1+rnd.Intn(5)), "job-name=" + pick(rnd, "x", "y", "z"), fmt.Sprintf("nice=%d", rnd.Intn(100)),
	}
	if rnd.Intn(3) == 0 {
		options = append(options, "requeue")
	}
	if rnd.Intn(6) == 0 {
		options = append(options, "hold")
	}
	if rnd.Intn(5) == 0 {
		options = append(options, fmt.Sprintf("array=0-3%%%d", 1+rnd.Intn(3)))
	}
	if last > 0 && rnd.Intn(3) == 0 {
		options = append(options, fmt.Sprintf("dependency=%s:%d%s", pick(rnd, "after", "afterok", "afternotok", "afterany"), 1+rnd.Intn(last), pick(rnd, "", ",singleton", "?singleton")))
	}
	return job(options...)
}

// randomCommand is often one that is refused.
func randomCommand(rnd *rand.Rand, last int) string {
	id := rnd.Intn(last + 2)
	switch rnd.Intn(12) {
	case 0, 1, 2, 3:
		return randomJob(rnd, last)
	case 4:
		return fmt.Sprintf("%s %d", pick(rnd, "hold", "release", "requeue"), id)
	case 5:
		return fmt.Sprintf("%s %d", pick(rnd, "cancel", "done", "failed"), id)
	case 6:
		return fmt.Sprintf("down %s %d", pick(rnd, "main", "main", "b", "x"), rnd.Intn(9))
	case 7, 8:
		return fmt.Sprintf("up %s %d", pick(rnd, "main", "b"), rnd.Intn(8))
	}
	return fmt.Sprintf("tick %d", 1+rnd.Intn(3))
}

func holds(j api.Job) bool {
	return j.How == api.JobRunning || j.How == api.JobSuspended
}

func meet(a, b api.Block) bool {
	order := max(a.Order, b.Order)
	return a.Start>>order == b.Start>>order
}

func jobs(x *ctl.Ctl) []api.Job {
	l := []api.Job{}
	for id := range x.Jobs() {
		j, _ := x.Job(uint32(id + 1))
		l = append(l, j)
	}
	return l
}

// checkWorkers checks that each worker is held once, by a job whose block is as small as can be, and that it has not failed.
func checkWorkers(t *testing.T, x *ctl.Ctl, policy int) {
	t.Helper()
	l := jobs(x)
	running := map[uint32]int{}
	for i, a := range l {
		if !holds(a) {
			continue
		}
		size := 1 << a.Block.Order
		if size < a.Spec.Size || size/2 >= a.Spec.Size || a.Block.Start%size != 0 {
			t.Fatal(a)
		}
		for _, worker := range x.Failed(a.Part) {
			if worker >= a.Block.Start && worker < a.Block.Start+size {
				t.Fatal("a failed worker is held by", a)
			}
		}
		for _, b := range l[:i] {
			both := a.How == api.JobRunning && b.How == api.JobRunning || policy != api.PolicyGang && holds(b)
			if a.Part == b.Part && both && meet(a.Block, b.Block) {
				t.Fatal("a worker is held by", a, b)
			}
		}
		if a.Array > 0 {
			if running[a.Array]++; running[a.Array] > a.Spec.Array.Most {
				t.Fatal("too many jobs of the array of", a)
			}
		}
	}
}

// checkBook checks the charges against the seconds that each job was seen to run.
func checkBook(t *testing.T, x *ctl.Ctl, seen map[uint32]int) {
	t.Helper()
	l := x.Book()
	if book.Check(l) != api.OK {
		t.Fatal(l)
	}
	for _, j := range jobs(x) {
		seconds, n := book.Of(l, j.ID)
		want := seen[j.ID]
		if holds(j) { // the present run is not charged yet
			want -= j.Ran
			if j.How == api.JobRunning {
				want -= x.Now() - j.Started
			}
			n++
		}
		if seconds != want || n != j.Runs {
			t.Fatal(j, seconds, want, n)
		}
	}
	for _, c := range l {
		j, _ := x.Job(c.ID)
		size := j.Spec.Size
		if c.Account != j.Spec.Account || c.Workers < size || c.Workers/2 >= size || c.Seconds > j.Spec.Limit {
			t.Fatal(c, j)
		}
	}
}

func TestWorkersAndCharges(t *testing.T) {
	for policy := api.PolicyFIFO; policy <= api.PolicyGang; policy++ {
		for seed := range int64(12) {
			rnd := rand.New(rand.NewSource(seed))
			x := controller(t, wide(policy))
			seen := map[uint32]int{}
			ended := map[uint32]api.Job{}
			for range 150 {
				command := randomCommand(rnd, x.Jobs())
				n := 0
				if _, e := fmt.Sscanf(command, "tick %d", &n); e == nil {
					command = "tick 1"
				}
				for range max(n, 1) {
					ran := x.Runs()
					if x.Do(command) == "ok" && n > 0 {
						for _, id := range ran {
							seen[id]++
						}
					}
				}
				checkWorkers(t, x, policy)
				checkBook(t, x, seen)
				for _, j := range jobs(x) {
					if before, ok := ended[j.ID]; ok && !reflect.DeepEqual(before, j) {
						t.Fatal("a job that has ended changes:", before, j)
					}
					if j.How >= api.JobDone {
						ended[j.ID] = j
					}
				}
			}
		}
	}
}

func TestTheSameCommandsLeadToTheSameState(t *testing.T) {
	for policy := api.PolicyFIFO; policy <= api.PolicyGang; policy++ {
		rnd := rand.New(rand.NewSource(99))
		x, y := controller(t, wide(policy)), controller(t, wide(policy))
		for range 200 {
			command := randomCommand(rnd, x.Jobs())
			if a, b := x.Do(command), y.Do(command); a != b {
				t.Fatal(command, a, b)
			}
		}
		if !reflect.DeepEqual(snapshot(x), snapshot(y)) {
			t.Fatal("two states")
		}
	}
}

func TestWhatIsRefusedChangesNothing(t *testing.T) {
	for policy := api.PolicyFIFO; policy <= api.PolicyGang; policy++ {
		rnd := rand.New(rand.NewSource(98))
		x := controller(t, wide(policy))
		for range 200 {
			before := snapshot(x)
			answer := x.Do(randomCommand(rnd, x.Jobs()))
			if len(answer) > 5 && answer[:5] == "error" && !reflect.DeepEqual(snapshot(x), before) {
				t.Fatal(answer)
			}
		}
	}
}

// restore gives the commands of a tape to a new controller.
func restore(t *testing.T, policy int, x *tape.Tape) *ctl.Ctl {
	t.Helper()
	c := controller(t, wide(policy))
	for _, command := range x.Records() {
		c.Do(string(command))
	}
	return c
}

func TestCommandsOnATapeAreDurable(t *testing.T) {
	for policy := api.PolicyFIFO; policy <= api.PolicyGang; policy++ {
		rnd := rand.New(rand.NewSource(97))
		disk, _ := spool.New(api.MaxSpool)
		log, e := tape.Open(disk)
		if e != api.OK {
			t.Fatal(e)
		}
		x := controller(t, wide(policy))
		for range 20 {
			disk.Off(rnd.Intn(20))
			command := ""
			for {
				command = randomCommand(rnd, x.Jobs())
				if log.Add([]byte(command)) != api.OK {
					break
				}
				x.Do(command)
			}
			acknowledged := snapshot(x)
			disk.Crash(rnd.Intn(200))
			if log, e = tape.Open(disk); e != api.OK {
				t.Fatal(e)
			}
			y := restore(t, policy, log)
			if !reflect.DeepEqual(snapshot(y), acknowledged) {
				if x.Do(command); !reflect.DeepEqual(snapshot(y), snapshot(x)) {
					t.Fatal("this state is neither that of all commands that were acknowledged nor the one after it")
				}
			}
			x = y
		}
	}
}

func TestEverythingEnds(t *testing.T) {
	for policy := api.PolicyFIFO; policy <= api.PolicyGang; policy++ {
		for seed := range int64(8) {
			rnd := rand.New(rand.NewSource(seed))
			x := controller(t, wide(policy))
			for range 80 {
				command := randomCommand(rnd, 0)
				x.Do(command)
			}
			for part, name := range []string{"main", "b"} {
				for _, worker := range x.Failed(part) {
					all(t, x, fmt.Sprintf("up %s %d", name, worker))
				}
			}
			sum := 0
			for _, j := range jobs(x) {
				sum += j.Spec.Limit
				if j.How == api.JobHeld {
					all(t, x, fmt.Sprintf("release %d", j.ID))
				}
			}
			for ; sum > 0; sum -= 1000 {
				all(t, x, fmt.Sprintf("tick %d", min(sum, 1000)))
			}
			for _, j := range jobs(x) {
				if j.How < api.JobDone {
					t.Fatal(policy, seed, j)
				}
			}
		}
	}
}

// scene is what a plan for the only partition is made of, seen from outside.
func scene(x *ctl.Ctl, order int) (api.Scene, []api.Want) {
	scene, l := api.Scene{Order: order}, []api.Want{}
	for _, j := range jobs(x) {
		size := 0
		for 1<<size < j.Spec.Size {
			size++
		}
		switch j.How {
		case api.JobRunning:
			scene.L = append(scene.L, api.Held{Block: j.Block, From: j.Started, To: j.Started + j.Spec.Limit})
		case api.JobWaiting:
			l = append(l, api.Want{ID: j.ID, Order: size, Length: j.Spec.Limit})
		}
	}
	return scene, l
}

func TestPromisesAreKept(t *testing.T) {
	for _, policy := range []int{api.PolicyEasy, api.PolicyConservative} {
		count := 0
		for seed := range int64(15) {
			rnd := rand.New(rand.NewSource(seed))
			x := controller(t, config(policy, 3))
			promised := map[uint32]int{}
			for range 120 {
				if rnd.Intn(3) == 0 && x.Jobs() < 60 {
					all(t, x, sized(1+rnd.Intn(8), 1+rnd.Intn(30)))
				} else {
					all(t, x, "tick 1")
				}
				// All weights are 0, so that the jobs are ranked by their numbers; each runs up to its limit.
				place, wants := scene(x, 3)
				slots, e := backfill.Conservative(place, wants, x.Now())
				if e != api.OK {
					t.Fatal(e)
				}
				if policy == api.PolicyEasy {
					slots = slots[:min(1, len(slots))]
				}
				for _, slot := range slots {
					if _, ok := promised[slot.ID]; !ok {
						promised[slot.ID] = slot.At
					}
				}
			}
			all(t, x, "tick 1000")
			for id, at := range promised {
				if j := get(t, x, id); j.Started > at || policy == api.PolicyConservative && j.Started != at {
					t.Fatal(policy, seed, j, at)
				}
			}
			count += len(promised)
		}
		if count < 50 {
			t.Error("too few promises:", count)
		}
	}
}

func TestAfterEverythingIsGivenBack(t *testing.T) {
	for policy := api.PolicyFIFO; policy <= api.PolicyGang; policy++ {
		rnd := rand.New(rand.NewSource(96))
		x := controller(t, wide(policy))
		for range 150 {
			x.Do(randomCommand(rnd, x.Jobs()))
		}
		for _, j := range jobs(x) {
			x.Do(fmt.Sprintf("cancel %d", j.ID))
		}
		for part, name := range []string{"main", "b"} {
			for _, worker := range x.Failed(part) {
				all(t, x, fmt.Sprintf("up %s %d", name, worker))
			}
		}
		first := x.Jobs() + 1
		all(t, x, job("size=8", "time=0:50"), job("size=4", "partition=b", "time=0:50"))
		if !slices.Equal(x.Runs(), []uint32{uint32(first), uint32(first + 1)}) {
			t.Error(policy, x.Runs(), x.Do("jobs"))
		}
	}
}
