package jobs_test

import (
	"math/rand"
	"reflect"
	"slices"
	"testing"

	"ganger/api"
	"ganger/jobs"
)

func config() api.Conf {
	return api.Conf{
		Policy: api.PolicyEasy, Half: 3600, Quantum: 10, Requeues: 1,
		Parts:    []api.Part{{Name: "small", Order: 1, Limit: 50}, {Name: "main", Order: 4, Limit: 1000}, {Name: "wide", Order: 10, Limit: api.MaxLimit}},
		Classes:  []api.Class{{Name: "normal", Most: 5}, {Name: "many", Most: api.MaxWeight}},
		Accounts: []api.Account{{Name: "root", Shares: 1}, {Name: "ann", Parent: "root", Shares: 1}},
	}
}

func spec() api.Spec {
	return api.Spec{Name: "job", Account: "root", Partition: "main", QOS: "normal", Size: 3, Limit: 100}
}

// with returns the spec, changed.
func with(change func(s *api.Spec)) api.Spec {
	s := spec()
	change(&s)
	return s
}

func table(t *testing.T) *jobs.Table {
	t.Helper()
	x, e := jobs.New(config())
	if e != api.OK || x == nil {
		t.Fatal(x, e)
	}
	return x
}

func submit(t *testing.T, x *jobs.Table, s api.Spec, now int) []uint32 {
	t.Helper()
	l, e := x.Submit(s, now)
	if e != api.OK {
		t.Fatal(s, e)
	}
	return l
}

func get(t *testing.T, x *jobs.Table, id uint32) api.Job {
	t.Helper()
	j, ok := x.Get(id)
	if !ok {
		t.Fatal("there is no job", id)
	}
	return j
}

// all returns everything that a table tells.
func all(x *jobs.Table) []api.Job {
	l := []api.Job{}
	for id := range x.Len() + 2 {
		if j, ok := x.Get(uint32(id)); ok {
			l = append(l, j)
		}
	}
	return l
}

var four = api.Block{Start: 4, Order: 2}

func TestNew(t *testing.T) {
	c := config()
	x, e := jobs.New(c)
	if e != api.OK || x.Len() != 0 {
		t.Fatal(e)
	}
	c.Parts[1].Name, c.Classes[0].Name, c.Accounts[0].Name = "x", "y", "z"
	if l := submit(t, x, spec(), 0); !slices.Equal(l, []uint32{1}) {
		t.Error(l)
	}
	c.Policy = 0
	if x, e := jobs.New(c); x != nil || e != api.ErrConf {
		t.Error(x, e)
	}
	if x, e := jobs.New(api.Conf{}); x != nil || e != api.ErrConf {
		t.Error(x, e)
	}
}

func TestNil(t *testing.T) {
	var x *jobs.Table
	if l, e := x.Submit(api.Spec{}, -1); len(l) != 0 || e != api.ErrNil {
		t.Error(l, e)
	}
	for i, e := range []api.Errno{x.Hold(1), x.Release(1, 1), x.Start(1, 1, four), x.Suspend(1, 1), x.Resume(1, 1), x.End(1, 1, 5), x.End(0, -1, 77), x.Requeue(1, 1), x.Never(1)} {
		if e != api.ErrNil {
			t.Error(i, e)
		}
	}
	if j, ok := x.Get(1); ok || !reflect.DeepEqual(j, api.Job{}) || len(x.List(1)) != 0 || x.Len() != 0 {
		t.Error("a nil table answers")
	}
}

func TestExample(t *testing.T) {
	x := table(t)
	s := with(func(s *api.Spec) { s.Array = api.Array{L: []int{0, 1}} })
	if l := submit(t, x, s, 5); !slices.Equal(l, []uint32{1, 2}) {
		t.Error(l)
	}
	wantOK := func(e api.Errno) {
		t.Helper()
		if e != api.OK {
			t.Error(e)
		}
	}
	wantOK(x.Start(1, 7, four))
	wantOK(x.Suspend(1, 10))
	if j := get(t, x, 1); j.Ran != 3 || j.How != api.JobSuspended {
		t.Error(j)
	}
	wantOK(x.Resume(1, 20))
	wantOK(x.End(1, 24, api.JobDone))
	want := api.Job{ID: 1, Array: 1, Index: 0, Spec: s, Part: 1, How: api.JobDone, Since: 5, Started: 20, Runs: 1, Ran: 7, Block: four}
	if j := get(t, x, 1); !reflect.DeepEqual(j, want) {
		t.Errorf("%+v; want %+v", j, want)
	}
	if e := x.Start(1, 30, four); e != api.ErrState {
		t.Error(e)
	}
}

func TestSubmit(t *testing.T) {
	x := table(t)
	many := with(func(s *api.Spec) {
		s.QOS, s.Hold = "many", true
		s.Array = api.Array{L: []int{3, 7, 1000}, Most: 2}
		s.Depend = api.Depend{L: []api.Need{{Kind: 1, Jobs: []uint32{1}}}}
	})
	for _, y := range []struct {
		s    api.Spec
		now  int
		want []api.Job
	}{
		{spec(), 0, []api.Job{{ID: 1, Index: -1, Spec: spec(), Part: 1, How: api.JobWaiting}}},
		{many, 9, []api.Job{
			{ID: 2, Array: 2, Index: 3, Spec: many, Part: 1, How: api.JobHeld, Since: 9},
			{ID: 3, Array: 2, Index: 7, Spec: many, Part: 1, How: api.JobHeld, Since: 9},
			{ID: 4, Array: 2, Index: 1000, Spec: many, Part: 1, How: api.JobHeld, Since: 9},
		}},
		{with(func(s *api.Spec) { s.Partition, s.Size, s.Limit = "small", 2, 50 }), api.MaxTime, []api.Job{{ID: 5, Index: -1, Spec: with(func(s *api.Spec) { s.Partition, s.Size, s.Limit = "small", 2, 50 }), How: api.JobWaiting, Since: api.MaxTime}}},
		{with(func(s *api.Spec) { s.Array.L = []int{0} }), 3, []api.Job{{ID: 6, Array: 6, Index: 0, Spec: with(func(s *api.Spec) { s.Array.L = []int{0} }), Part: 1, How: api.JobWaiting, Since: 3}}},
		{with(func(s *api.Spec) { s.Size, s.Limit = 16, 1000 }), 3, []api.Job{{ID: 7, Index: -1, Spec: with(func(s *api.Spec) { s.Size, s.Limit = 16, 1000 }), Part: 1, How: api.JobWaiting, Since: 3}}},
	} {
		l, e := x.Submit(y.s, y.now)
		if e != api.OK || len(l) != len(y.want) {
			t.Fatal(y.s, l, e)
		}
		for i, want := range y.want {
			if j := get(t, x, l[i]); !reflect.DeepEqual(j, want) {
				t.Errorf("%+v; want %+v", j, want)
			}
		}
	}
	if x.Len() != 7 || !slices.Equal(x.List(api.JobHeld), []uint32{2, 3, 4}) || !slices.Equal(x.List(api.JobWaiting), []uint32{1, 5, 6, 7}) {
		t.Error(x.Len(), x.List(api.JobHeld), x.List(api.JobWaiting))
	}
	for _, how := range []int{0, 3, 4, 5, 6, 7, 8, 9, 10, -1, api.MaxInt} {
		if l := x.List(how); len(l) != 0 {
			t.Error(how, l)
		}
	}
	for _, id := range []uint32{0, 8, 1<<32 - 1} {
		if j, ok := x.Get(id); ok || !reflect.DeepEqual(j, api.Job{}) {
			t.Error(id, j, ok)
		}
	}
}

func TestSubmitRefuses(t *testing.T) {
	for _, y := range []struct {
		change func(s *api.Spec)
		now    int
		e      api.Errno
	}{
		{func(s *api.Spec) { s.Size = 0 }, 0, api.ErrValue},
		{func(s *api.Spec) { s.Size = 1025 }, -1, api.ErrValue},
		{func(s *api.Spec) { s.Name = ""; s.Partition = "nowhere" }, 0, api.ErrValue},
		{func(s *api.Spec) { s.Run = "#" }, 0, api.ErrValue},
		{func(s *api.Spec) { s.Array.Most = 3 }, 0, api.ErrValue},
		{func(s *api.Spec) { s.Limit = 0 }, -1, api.ErrValue},
		{func(s *api.Spec) {}, -1, api.ErrArg},
		{func(s *api.Spec) {}, api.MaxTime + 1, api.ErrArg},
		{func(s *api.Spec) {}, api.MinInt, api.ErrArg},
		{func(s *api.Spec) { s.Size = 17 }, 0, api.ErrArg},
		{func(s *api.Spec) { s.Partition = "small" }, 0, api.ErrArg},
		{func(s *api.Spec) { s.Partition, s.Limit, s.QOS = "small", 51, "none" }, 0, api.ErrArg},
		{func(s *api.Spec) { s.Partition = "nowhere" }, -1, api.ErrArg},
		{func(s *api.Spec) { s.Partition, s.Size = "nowhere", 1024 }, 0, api.ErrNone},
		{func(s *api.Spec) { s.QOS = "none" }, 0, api.ErrNone},
		{func(s *api.Spec) { s.QOS = "root" }, 0, api.ErrNone},
		{func(s *api.Spec) { s.Account = "nobody" }, 0, api.ErrNone},
		{func(s *api.Spec) { s.Account, s.Limit = "nobody", 1001 }, 0, api.ErrNone},
		{func(s *api.Spec) { s.Limit = 1001 }, 0, api.ErrLong},
		{func(s *api.Spec) { s.Partition, s.Size, s.Limit = "small", 2, 51 }, 0, api.ErrLong},
		{func(s *api.Spec) { s.Limit, s.Array.L = 1001, []int{1, 2, 3, 4, 5, 6} }, 0, api.ErrLong},
		{func(s *api.Spec) { s.Array.L = []int{1, 2, 3, 4, 5, 6} }, 0, api.ErrFull},
		{func(s *api.Spec) { s.Array.L = []int{1, 2, 3, 4, 5} }, 0, api.ErrFull},
	} {
		x := table(t)
		submit(t, x, spec(), 0)
		before := all(x)
		l, e := x.Submit(with(y.change), y.now)
		if len(l) != 0 || e != y.e {
			t.Error(with(y.change), y.now, l, e)
		}
		if !reflect.DeepEqual(all(x), before) {
			t.Error("a call that was refused changed the table")
		}
		if l := submit(t, x, spec(), 0); !slices.Equal(l, []uint32{2}) {
			t.Error(l)
		}
	}
}

func TestJobsOfAClass(t *testing.T) {
	x := table(t)
	submit(t, x, with(func(s *api.Spec) { s.Array.L = []int{1, 2, 3, 4, 5} }), 0)
	full := func(want bool) {
		t.Helper()
		probe := with(func(s *api.Spec) { s.QOS = "many" })
		submit(t, x, probe, 0)
		l, e := x.Submit(spec(), 0)
		if (e == api.ErrFull) != want || (e == api.OK) == want {
			t.Error(l, e)
		}
		for _, id := range l {
			x.Never(id)
		}
	}
	full(true)
	x.Hold(1)
	full(true)
	x.Start(2, 0, four)
	full(true)
	x.Suspend(2, 0)
	full(true)
	x.Requeue(2, 0)
	full(true)
	x.Start(2, 0, four)
	x.End(2, 0, api.JobDone)
	full(false)
	submit(t, x, spec(), 0)
	full(true)
	x.End(3, 0, api.JobCancelled)
	full(false)
	submit(t, x, spec(), 0)
	x.Never(4)
	full(false)
	x.Start(5, 0, four)
	x.End(5, 0, api.JobFailed)
	if _, e := x.Submit(with(func(s *api.Spec) { s.Array.L = []int{1, 2, 3} }), 0); e != api.ErrFull {
		t.Error(e)
	}
	submit(t, x, with(func(s *api.Spec) { s.Array.L = []int{1, 2} }), 0)
	full(true)
}

func TestJobsOfATable(t *testing.T) {
	x := table(t)
	indexes := []int{}
	for i := range 499 {
		indexes = append(indexes, i)
	}
	many := with(func(s *api.Spec) { s.QOS, s.Array.L = "many", indexes })
	submit(t, x, many, 0)
	two := with(func(s *api.Spec) { s.QOS, s.Array.L = "many", []int{1, 2} })
	if l, e := x.Submit(two, 0); len(l) != 0 || e != api.ErrFull {
		t.Error(l, e)
	}
	if l := submit(t, x, spec(), 0); !slices.Equal(l, []uint32{500}) {
		t.Error(l)
	}
	x.Never(500)
	x.Never(1)
	if l, e := x.Submit(spec(), 0); len(l) != 0 || e != api.ErrFull || x.Len() != 500 {
		t.Error(l, e)
	}
}

// states are all, and how job 1 of a table gets there from waiting, within ticks 10 to 30.
var states = map[int]func(x *jobs.Table){
	api.JobWaiting:   func(x *jobs.Table) {},
	api.JobHeld:      func(x *jobs.Table) { x.Hold(1) },
	api.JobRunning:   func(x *jobs.Table) { x.Start(1, 20, four) },
	api.JobSuspended: func(x *jobs.Table) { x.Start(1, 20, four); x.Suspend(1, 24) },
	api.JobDone:      func(x *jobs.Table) { x.Start(1, 20, four); x.End(1, 24, api.JobDone) },
	api.JobFailed:    func(x *jobs.Table) { x.Start(1, 20, four); x.End(1, 24, api.JobFailed) },
	api.JobCancelled: func(x *jobs.Table) { x.End(1, 20, api.JobCancelled) },
	api.JobLate:      func(x *jobs.Table) { x.Start(1, 20, four); x.End(1, 24, api.JobLate) },
	api.JobNever:     func(x *jobs.Table) { x.Never(1) },
}

// in returns a table whose job 1 is in that state; it waits since 10.
func in(t *testing.T, how int) *jobs.Table {
	t.Helper()
	x := table(t)
	submit(t, x, spec(), 10)
	states[how](x)
	if j := get(t, x, 1); j.How != how {
		t.Fatal(how, j)
	}
	return x
}

// calls are all changes, what they do, and from where.
var calls = []struct {
	name string
	call func(x *jobs.Table, id uint32, now int) api.Errno
	from []int
	want func(j *api.Job, now int)
}{
	{"Hold", func(x *jobs.Table, id uint32, now int) api.Errno { return x.Hold(id) }, []int{1}, func(j *api.Job, now int) { j.How = 2 }},
	{"Release", func(x *jobs.Table, id uint32, now int) api.Errno { return x.Release(id, now) }, []int{2}, func(j *api.Job, now int) { j.How, j.Since = 1, now }},
	{"Start", func(x *jobs.Table, id uint32, now int) api.Errno {
		return x.Start(id, now, api.Block{Start: 8, Order: 2})
	}, []int{1}, func(j *api.Job, now int) {
		j.How, j.Started, j.Runs, j.Ran, j.Block = 3, now, j.Runs+1, 0, api.Block{Start: 8, Order: 2}
	}},
	{"Suspend", func(x *jobs.Table, id uint32, now int) api.Errno { return x.Suspend(id, now) }, []int{3}, func(j *api.Job, now int) { stop(j, now); j.How = 4 }},
	{"Resume", func(x *jobs.Table, id uint32, now int) api.Errno { return x.Resume(id, now) }, []int{4}, func(j *api.Job, now int) { j.How, j.Started = 3, now }},
	{"End Done", func(x *jobs.Table, id uint32, now int) api.Errno { return x.End(id, now, 5) }, []int{3, 4}, func(j *api.Job, now int) { stop(j, now); j.How = 5 }},
	{"End Failed", func(x *jobs.Table, id uint32, now int) api.Errno { return x.End(id, now, 6) }, []int{3, 4}, func(j *api.Job, now int) { stop(j, now); j.How = 6 }},
	{"End Cancelled", func(x *jobs.Table, id uint32, now int) api.Errno { return x.End(id, now, 7) }, []int{1, 2, 3, 4}, func(j *api.Job, now int) { stop(j, now); j.How = 7 }},
	{"End Late", func(x *jobs.Table, id uint32, now int) api.Errno { return x.End(id, now, 8) }, []int{3, 4}, func(j *api.Job, now int) { stop(j, now); j.How = 8 }},
	{"Requeue", func(x *jobs.Table, id uint32, now int) api.Errno { return x.Requeue(id, now) }, []int{3, 4}, func(j *api.Job, now int) { j.How, j.Since, j.Ran, j.Block = 1, now, 0, api.Block{} }},
	{"Never", func(x *jobs.Table, id uint32, now int) api.Errno { return x.Never(id) }, []int{1, 2}, func(j *api.Job, now int) { j.How = 9 }},
}

func stop(j *api.Job, now int) {
	if j.How == api.JobRunning {
		j.Ran += now - j.Started
	}
}

func TestStateChanges(t *testing.T) {
	for how := range states {
		for _, c := range calls {
			for _, now := range []int{30, 20, 1000, api.MaxTime} {
				x := in(t, how)
				submit(t, x, spec(), 0)
				want := get(t, x, 1)
				other := get(t, x, 2)
				e := c.call(x, 1, now)
				if !slices.Contains(c.from, how) {
					if e != api.ErrState {
						t.Errorf("%s in state %d: %d", c.name, how, e)
					}
				} else if c.want(&want, now); e != api.OK {
					t.Errorf("%s in state %d: %d", c.name, how, e)
				}
				if j := get(t, x, 1); !reflect.DeepEqual(j, want) {
					t.Errorf("%s in state %d: %+v; want %+v", c.name, how, j, want)
				}
				if j := get(t, x, 2); !reflect.DeepEqual(j, other) {
					t.Errorf("%s changed another job", c.name)
				}
			}
		}
	}
}

func TestErrorsOfChangesInTheirOrder(t *testing.T) {
	for how := range states {
		for _, c := range calls {
			timed := c.name != "Hold" && c.name != "Never"
			x := in(t, how)
			before := all(x)
			for _, id := range []uint32{0, 2, 1<<32 - 1} {
				for _, now := range []int{30, -1} {
					if e := c.call(x, id, now); e != api.ErrNone {
						t.Error(c.name, id, e)
					}
				}
			}
			for _, now := range []int{9, -1, api.MaxTime + 1, api.MinInt, api.MaxInt} {
				if e := c.call(x, 1, now); timed && e != api.ErrArg {
					t.Error(c.name, how, now, e)
				}
			}
			if timed && !reflect.DeepEqual(all(x), before) {
				t.Error(c.name, "changed something")
			}
		}
	}
	// A job that was started at 20, and waits since 10.
	for _, how := range []int{api.JobRunning, api.JobSuspended, api.JobDone} {
		for _, c := range calls {
			if c.name != "Hold" && c.name != "Never" {
				if e := c.call(in(t, how), 1, 19); e != api.ErrArg {
					t.Error(c.name, how, e)
				}
			}
		}
	}
}

func TestATimeBeforeTheLastStartIsRefusedAfterRequeueing(t *testing.T) {
	x := in(t, api.JobRunning)
	if e := x.Requeue(1, 25); e != api.OK {
		t.Fatal(e)
	}
	if e := x.Start(1, 24, four); e != api.ErrArg {
		t.Error(e)
	}
	if j := get(t, x, 1); j.Since != 25 || j.Started != 20 || j.Runs != 1 {
		t.Error(j)
	}
	if e := x.Start(1, 25, four); e != api.OK {
		t.Error(e)
	}
}

func TestBlocks(t *testing.T) {
	for _, y := range []struct {
		size int
		b    api.Block
		ok   bool
	}{
		{3, api.Block{Start: 0, Order: 2}, true}, {4, api.Block{Start: 4, Order: 2}, true}, {3, api.Block{Start: 1020, Order: 2}, true}, {1, api.Block{Start: 1023}, true}, {1024, api.Block{Order: 10}, true}, {5, api.Block{Start: 8, Order: 3}, true},
		{3, api.Block{Start: 0, Order: 1}, false}, {3, api.Block{Start: 0, Order: 3}, false}, {4, api.Block{Start: 0, Order: 3}, false}, {5, api.Block{Start: 4, Order: 3}, false}, {3, api.Block{Start: 2, Order: 2}, false}, {3, api.Block{Start: 1, Order: 2}, false},
		{3, api.Block{Start: -4, Order: 2}, false}, {3, api.Block{Start: 1024, Order: 2}, false}, {1, api.Block{Start: 1024}, false}, {1, api.Block{Start: -1}, false}, {1, api.Block{Order: -1}, false}, {1024, api.Block{Start: 1024, Order: 10}, false},
		{1, api.Block{Start: api.MinInt}, false}, {1, api.Block{Start: api.MaxInt}, false}, {2, api.Block{Order: api.MaxInt}, false}, {2, api.Block{Order: api.MinInt}, false},
	} {
		x := table(t)
		submit(t, x, with(func(s *api.Spec) { s.Partition, s.Size = "wide", y.size }), 0)
		e := x.Start(1, 0, y.b)
		if (e == api.OK) != y.ok || !y.ok && e != api.ErrArg {
			t.Error(y, e)
		}
		if j := get(t, x, 1); y.ok && j.Block != y.b || !y.ok && j.How != api.JobWaiting {
			t.Error(y, j)
		}
		if y.ok {
			x.End(1, 0, api.JobDone)
		} else {
			x.Never(1)
		}
		if e := x.Start(1, 0, y.b); y.ok && e != api.ErrState || !y.ok && e != api.ErrArg {
			t.Error(y, e)
		}
	}
}

func TestEndKnowsFourValues(t *testing.T) {
	for _, how := range []int{0, 1, 2, 3, 4, 9, 10, -1, api.MaxInt, api.MinInt} {
		for _, state := range []int{api.JobWaiting, api.JobRunning, api.JobDone} {
			if e := in(t, state).End(1, 30, how); e != api.ErrArg {
				t.Error(how, state, e)
			}
		}
	}
}

func TestRequeues(t *testing.T) {
	x := table(t)
	submit(t, x, spec(), 0)
	x.Start(1, 1, four)
	x.Suspend(1, 3)
	if e := x.Requeue(1, 4); e != api.OK {
		t.Error(e)
	}
	x.Start(1, 5, four)
	before := get(t, x, 1)
	if e := x.Requeue(1, 6); e != api.ErrFull || !reflect.DeepEqual(before, get(t, x, 1)) {
		t.Error(e, get(t, x, 1))
	}
	if e := x.Requeue(1, 4); e != api.ErrArg {
		t.Error(e)
	}
	x.Suspend(1, 7)
	if e := x.Requeue(1, 8); e != api.ErrFull {
		t.Error(e)
	}
	x.End(1, 9, api.JobDone)
	if e := x.Requeue(1, 9); e != api.ErrState {
		t.Error(e)
	}
	c := config()
	c.Requeues = 0
	y, _ := jobs.New(c)
	y.Submit(spec(), 0)
	if e := y.Requeue(1, 0); e != api.ErrState {
		t.Error(e)
	}
	y.Start(1, 0, four)
	if e := y.Requeue(1, 0); e != api.ErrFull {
		t.Error(e)
	}
}

func TestRanAddsUp(t *testing.T) {
	x := in(t, api.JobRunning)
	for i := range 5 {
		x.Suspend(1, 30+i*10)
		x.Resume(1, 33+i*10)
	}
	x.Suspend(1, 80)
	if j := get(t, x, 1); j.Ran != 10+4*7+7 || j.Started != 73 || j.Runs != 1 {
		t.Error(j)
	}
	x.End(1, 100, api.JobLate)
	if j := get(t, x, 1); j.Ran != 45 || j.How != api.JobLate {
		t.Error(j)
	}
}

func TestJobsAreCopies(t *testing.T) {
	full := func(s *api.Spec) {
		s.Array.L = []int{1, 2}
		s.Depend.L = []api.Need{{Kind: 1, Jobs: []uint32{5, 6}}}
	}
	spoil := func(s api.Spec) {
		s.Array.L[0], s.Depend.L[0].Jobs[0], s.Depend.L[0].Kind = 77, 77, 3
		_ = append(s.Array.L[:1], 78)
	}
	x := table(t)
	given := with(full)
	l := submit(t, x, given, 0)
	check := func(when string) {
		t.Helper()
		for id := uint32(1); id <= 2; id++ {
			if j := get(t, x, id); j.ID != id || !reflect.DeepEqual(j.Spec, with(full)) {
				t.Errorf("after %s: %+v", when, j)
			}
		}
	}
	check("Submit")
	spoil(given)
	l[0] = 77
	check("a change of the argument")
	spoil(get(t, x, 1).Spec)
	check("a change of the first job")
	spoil(get(t, x, 2).Spec)
	check("a change of the second job")
	a, b := get(t, x, 1), get(t, x, 1)
	spoil(a.Spec)
	if !reflect.DeepEqual(b.Spec, with(full)) {
		t.Error("two results share memory")
	}
	x.List(api.JobWaiting)[0] = 77
	if !slices.Equal(x.List(api.JobWaiting), []uint32{1, 2}) {
		t.Error(x.List(api.JobWaiting))
	}
	if y := table(t); y.Len() != 0 {
		t.Error("tables are not independent")
	}
}

func TestWhatHasEndedStaysSo(t *testing.T) {
	r := rand.New(rand.NewSource(24))
	for range 300 {
		x := table(t)
		submit(t, x, with(func(s *api.Spec) { s.Array.L = []int{0, 1, 2} }), 0)
		for now := range 40 {
			before := all(x)
			c := calls[r.Intn(len(calls))]
			c.call(x, uint32(1+r.Intn(3)), now)
			for i, j := range all(x) {
				if before[i].How >= api.JobDone && !reflect.DeepEqual(before[i], j) {
					t.Fatal(c.name, before[i], j)
				}
				if j.ID != before[i].ID || j.Index != i || j.Array != 1 || !reflect.DeepEqual(j.Spec, before[i].Spec) {
					t.Fatal(c.name, j)
				}
			}
		}
	}
}
