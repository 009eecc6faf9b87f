package ctl_test

import (
	"reflect"
	"strconv"
	"strings"
	"testing"

	"ganger/api"
	"ganger/ctl"
)

func TestNew(t *testing.T) {
	c := config(api.PolicyEasy, 1)
	x := controller(t, c)
	if x.Now() != 0 || x.Jobs() != 0 || len(x.Book()) != 0 || len(x.Runs()) != 0 || len(x.Failed(0)) != 0 {
		t.Error("something is there")
	}
	c.Parts[0].Name, c.Classes[0].Name, c.Accounts[0].Name = "x", "y", "z"
	do(t, x, job("size=2"), "ok 1")
	all(t, x, "down main 1", "tick 1")
	c.Policy = 5
	if x, e := ctl.New(c); x != nil || e != api.ErrConf {
		t.Error(x, e)
	}
	if x, e := ctl.New(api.Conf{}); x != nil || e != api.ErrConf {
		t.Error(x, e)
	}
}

func TestNil(t *testing.T) {
	var x *ctl.Ctl
	for _, command := range []string{"", "jobs", "tick 1", job(), "nonsense", "book"} {
		do(t, x, command, "error 1")
	}
	if j, ok := x.Job(1); ok || !reflect.DeepEqual(j, api.Job{}) {
		t.Error(j, ok)
	}
	if x.Now() != 0 || x.Jobs() != 0 || len(x.Book()) != 0 || len(x.Failed(0)) != 0 || len(x.Runs()) != 0 {
		t.Error("a nil controller answers")
	}
}

func TestExample(t *testing.T) {
	x := controller(t, config(api.PolicyEasy, 1))
	do(t, x, sized(2, 5), "ok 1")
	runs(t, x, 1)
	do(t, x, "jobs", "ok\n1 job running 0")
	do(t, x, "book", "ok")
	do(t, x, "tick 5", "ok")
	do(t, x, "book", "ok\n1 root 2x5 late 5")
	do(t, x, "jobs", "ok\n1 job late 5")
	runs(t, x)
}

func TestWhatIsNoCommand(t *testing.T) {
	x := controller(t, config(api.PolicyEasy, 1))
	all(t, x, sized(1, 50), "tick 1")
	before := snapshot(x)
	for _, command := range []string{
		"", " ", "\n", "x", "Hold 1", "hold", "hold ", "hold x", "hold 01", "hold 00", "hold -1", "hold +1", "hold 1 ", " hold 1", "hold  1", "hold 1 1", "hold 1\n", "hold\n1", "hold\t1", "hold 1234567890", "hold １",
		"release", "release x", "release 1 2", "cancel", "cancel x", "cancel 01", "cancel 1 1", "requeue", "requeue 1 1", "requeue x", "done", "done x", "done 1 1", "failed", "failed x", "failed 1 1",
		"down", "down main", "down main x", "down main -1", "down main 01", "down main 1 1", "down  main 1", "down main  1", "down main", "down 1", "down main 1234567890", "up", "up main", "up main x", "up main 1 1", "up main 01",
		"tick", "tick ", "tick x", "tick 01", "tick -1", "tick 1 1", "tick 1234567890", "tick 1.5", "tick  1", "jobs ", "jobs 1", " jobs", "job", "book ", "book x", "Book", "jobs\n", "books",
		"submit", "submit ", "submit #!job", "submit #!job\n", "submit\n", "submit\n\n#!job\n", "submit\r\n#!job\n", " submit\n#!job\n", "Submit\n#!job\n", "submit \n#!job\n", "submit\n#!job", "submit\n#!job\n#SBATCH --x\n", "submit\n#!job\n#SBATCH --size=x\n",
		"hold 1 2 3 4 5 6", strings.Repeat("x ", 5000), "\xff", "tick \xff",
	} {
		do(t, x, command, "error 60")
	}
	if !reflect.DeepEqual(snapshot(x), before) {
		t.Error("something was changed")
	}
}

func TestNumbersHaveUpToNineDigits(t *testing.T) {
	x := controller(t, config(api.PolicyEasy, 1))
	for _, name := range []string{"hold", "release", "cancel", "requeue", "done", "failed"} {
		for _, n := range []string{"0", "1", "999999999"} {
			do(t, x, name+" "+n, "error 4")
		}
	}
	for _, command := range []string{"tick 0", "tick 1001", "tick 999999999", "down main 2", "down main 999999999", "up main 2", "up main 999999999"} {
		do(t, x, command, "error 2")
	}
}

func TestSubmit(t *testing.T) {
	c := config(api.PolicyEasy, 2)
	c.Parts = append(c.Parts, api.Part{Name: "b", Order: 0, Limit: 60})
	c.Classes = append(c.Classes, api.Class{Name: "few", Most: 2})
	x := controller(t, c)
	do(t, x, job(), "ok 1")
	do(t, x, job("array=0-2", "hold"), "ok 2 3 4")
	do(t, x, "submit\n#!job\n", "ok 5")
	do(t, x, "submit\n#!job\n# c\na b c\nhold 1\n", "ok 6")
	if j := get(t, x, 6); j.Spec.Run != "a b c\nhold 1\n" || j.Index != -1 {
		t.Error(j)
	}
	if j := get(t, x, 3); j.Array != 2 || j.Index != 1 || j.How != api.JobHeld {
		t.Error(j)
	}
	before := snapshot(x)
	for _, y := range []struct{ command, want string }{
		{job("size=0"), "error 90"}, {job("size=1025"), "error 90"}, {job("job-name=a/b"), "error 90"}, {job("size=5"), "error 2"}, {job("partition=b", "size=2"), "error 2"}, {job("partition=c", "time=1"), "error 4"}, {job("qos=c"), "error 4"}, {job("account=c"), "error 4"},
		{job("partition=b", "time=1:1"), "error 3"}, {job("qos=few", "array=0-2"), "error 5"}, {job("array=0-494"), "error 5"},
	} {
		do(t, x, y.command, y.want)
	}
	if !reflect.DeepEqual(snapshot(x), before) {
		t.Error("something was changed")
	}
	if x.Jobs() != 6 {
		t.Error(x.Jobs())
	}
}

func TestHoldAndRelease(t *testing.T) {
	x := controller(t, config(api.PolicyEasy, 0))
	all(t, x, sized(1, 5), sized(1, 7), sized(1, 9, "hold"))
	states(t, x, api.JobRunning, api.JobWaiting, api.JobHeld)
	do(t, x, "hold 1", "error 130")
	do(t, x, "hold 3", "error 130")
	do(t, x, "release 1", "error 130")
	do(t, x, "release 2", "error 130")
	do(t, x, "hold 2", "ok")
	all(t, x, "tick 6")
	states(t, x, api.JobLate, api.JobHeld, api.JobHeld)
	do(t, x, "hold 1", "error 130")
	do(t, x, "release 1", "error 130")
	do(t, x, "release 3", "ok")
	runs(t, x, 3)
	do(t, x, "release 2", "ok")
	states(t, x, api.JobLate, api.JobWaiting, api.JobRunning)
	if j := get(t, x, 3); j.Since != 6 || j.Started != 6 || j.Runs != 1 {
		t.Error(j)
	}
}

func TestEnds(t *testing.T) {
	x := controller(t, config(api.PolicyEasy, 2))
	all(t, x, sized(1, 50), sized(2, 50), sized(1, 50, "hold"), sized(3, 50), sized(1, 50), sized(1, 60))
	states(t, x, api.JobRunning, api.JobRunning, api.JobHeld, api.JobWaiting, api.JobRunning, api.JobWaiting)
	all(t, x, "tick 3")
	for _, command := range []string{"done 3", "done 4", "failed 3", "failed 4", "requeue 3", "requeue 4"} {
		do(t, x, command, "error 130")
	}
	do(t, x, "cancel 3", "ok")
	charges(t, x)
	do(t, x, "done 1", "ok")
	do(t, x, "failed 2", "ok")
	all(t, x, "tick 1")
	do(t, x, "cancel 5", "ok")
	states(t, x, api.JobDone, api.JobFailed, api.JobCancelled, api.JobRunning, api.JobCancelled, api.JobWaiting)
	all(t, x, "tick 2", "requeue 4") // now 6 has waited longer
	states(t, x, api.JobDone, api.JobFailed, api.JobCancelled, api.JobWaiting, api.JobCancelled, api.JobRunning)
	charges(t, x, "1 root 1x3 done 3", "2 root 2x3 failed 3", "5 root 1x4 cancelled 4", "4 root 4x2 requeued 6")
	for _, name := range []string{"hold ", "release ", "cancel ", "requeue ", "done ", "failed "} {
		for _, id := range []string{"1", "2", "3", "5"} {
			do(t, x, name+id, "error 130")
		}
		do(t, x, name+"7", "error 4")
	}
	all(t, x, "tick 110")
	charges(t, x, "1 root 1x3 done 3", "2 root 2x3 failed 3", "5 root 1x4 cancelled 4", "4 root 4x2 requeued 6", "6 root 1x60 late 66", "4 root 4x50 late 116")
	do(t, x, "jobs", "ok\n1 job done 3\n2 job failed 3\n3 job cancelled 0\n4 job late 50\n5 job cancelled 4\n6 job late 60")
}

func TestAllStatesHaveNames(t *testing.T) {
	x := controller(t, config(api.PolicyGang, 0))
	do(t, x, "jobs", "ok")
	all(t, x, sized(1, 50, "job-name=a"), sized(1, 1, "job-name=b"), "tick 10", "tick 1", "done 1")
	all(t, x, sized(1, 50, "job-name=c"), "cancel 3", sized(1, 50, "job-name=d"), "failed 4", sized(1, 50, "job-name=e", "dependency=afterok:4"))
	all(t, x, sized(1, 50, "job-name=f", "hold"), sized(1, 50, "job-name=g"), sized(1, 50, "job-name=é"), sized(1, 50, "job-name=i", "begin=99"), "tick 3")
	do(t, x, "jobs", "ok\n1 a done 10\n2 b late 1\n3 c cancelled 0\n4 d failed 0\n5 e never 0\n6 f held 0\n7 g running 0\n8 é suspended 0\n9 i waiting 0")
}

func TestRequeueIsLimited(t *testing.T) {
	x := controller(t, config(api.PolicyEasy, 0))
	all(t, x, sized(1, 50), "tick 1", "requeue 1", "tick 2", "requeue 1", "tick 3")
	before := snapshot(x)
	do(t, x, "requeue 1", "error 5")
	if !reflect.DeepEqual(snapshot(x), before) {
		t.Error("something was changed")
	}
	charges(t, x, "1 root 1x1 requeued 1", "1 root 1x2 requeued 3")
	if j := get(t, x, 1); j.Runs != 3 || j.Since != 3 || j.Started != 3 || j.How != api.JobRunning {
		t.Error(j)
	}
}

func TestDownAndUp(t *testing.T) {
	c := config(api.PolicyEasy, 2)
	c.Parts = append(c.Parts, api.Part{Name: "b", Order: 0, Limit: 60})
	x := controller(t, c)
	for _, y := range []struct{ command, want string }{
		{"down x 0", "error 4"}, {"down  0", "error 4"}, {"down a\nb 0", "error 4"}, {"down Main 99", "error 4"}, {"up x 0", "error 4"}, {"up  0", "error 4"}, {"up x 99", "error 4"},
		{"down main 4", "error 2"}, {"down b 1", "error 2"}, {"up main 4", "error 2"}, {"up main 3", "error 4"},
		{"down main 3", "ok"}, {"down main 3", "error 30"}, {"down main 0", "ok"}, {"down b 0", "ok"}, {"up b 0", "ok"}, {"up b 0", "error 4"},
	} {
		do(t, x, y.command, y.want)
	}
	for part, want := range map[int][]int{0: {0, 3}, 1: {}, 2: {}, -1: {}, api.MaxInt: {}, api.MinInt: {}} {
		if got := x.Failed(part); len(got) != len(want) || len(got) > 0 && !reflect.DeepEqual(got, want) {
			t.Error(part, got)
		}
	}
	do(t, x, sized(2, 5), "ok 1")
	states(t, x, api.JobWaiting)
	do(t, x, sized(1, 5), "ok 2")
	runs(t, x, 2)
	do(t, x, "up main 3", "ok")
	runs(t, x, 1, 2)
	block(t, x, 1, 2, 1)
}

func TestTicks(t *testing.T) {
	x := controller(t, config(api.PolicyEasy, 0))
	for _, y := range []struct{ command, want string }{{"tick 0", "error 2"}, {"tick 1001", "error 2"}, {"tick 1", "ok"}, {"tick 1000", "ok"}} {
		do(t, x, y.command, y.want)
	}
	if x.Now() != 1001 {
		t.Error(x.Now())
	}
	all(t, x, sized(1, 3), sized(1, 4), sized(1, 5), "tick 8")
	charges(t, x, "1 root 1x3 late 1004", "2 root 1x4 late 1008")
	runs(t, x, 3)
	if j := get(t, x, 3); j.Started != 1008 || j.Since != 1001 {
		t.Error(j)
	}
}

func TestResultsAreNewMemory(t *testing.T) {
	x := controller(t, config(api.PolicyEasy, 1))
	all(t, x, sized(1, 3, "array=1-2", "dependency=singleton"), "down main 1", "tick 3", "tick 1")
	for range 2 {
		book, failed, runs, j := x.Book(), x.Failed(0), x.Runs(), get(t, x, 1)
		if len(book) != 1 || book[0].ID != 1 || len(failed) != 1 || failed[0] != 1 || len(runs) != 1 || runs[0] != 2 {
			t.Error(book, failed, runs)
		}
		if j.Spec.Array.L[0] != 1 || j.Spec.Depend.L[0].Kind != api.NeedSingleton {
			t.Error(j)
		}
		book[0].ID, failed[0], runs[0] = 77, 77, 77
		j.Spec.Array.L[0], j.Spec.Depend.L[0].Kind = 77, 77
		_ = append(x.Book(), api.Charge{ID: 9})
	}
	if y := controller(t, config(api.PolicyEasy, 1)); y.Jobs() != 0 || len(y.Failed(0)) != 0 || y.Now() != 0 {
		t.Error("controllers are not independent")
	}
}

func TestTheBookIsFull(t *testing.T) {
	c := config(api.PolicyEasy, 0)
	c.Requeues = 100
	x := controller(t, c)
	n := 0
	for id := 1; id <= 20; id++ {
		number := strconv.Itoa(id)
		do(t, x, sized(1, 50), "ok "+number)
		for range 100 {
			do(t, x, "requeue "+number, "ok")
			n = min(n+1, api.MaxCharges)
		}
		do(t, x, "requeue "+number, "error 5")
		do(t, x, "done "+number, "ok")
		n = min(n+1, api.MaxCharges)
		if len(x.Book()) != n || strings.Count(x.Do("book"), "\n") != n {
			t.Fatal(len(x.Book()), n)
		}
	}
	if last := x.Book()[api.MaxCharges-1]; n != api.MaxCharges || last.ID != 20 || last.How != 0 {
		t.Error(n, last)
	}
	do(t, x, sized(1, 5), "ok 21")
	all(t, x, "tick 5")
	if len(x.Book()) != api.MaxCharges || get(t, x, 21).How != api.JobLate {
		t.Error(len(x.Book()))
	}
}
