package waits_test

import (
	"math/rand"
	"reflect"
	"slices"
	"testing"

	"ganger/api"
	"ganger/depend"
	"ganger/waits"
)

// row makes jobs with these states, each of its own name.
func row(hows ...int) []api.Job {
	l := []api.Job{}
	for i, how := range hows {
		l = append(l, api.Job{ID: uint32(i + 1), Index: -1, How: how, Spec: api.Spec{Name: string(rune('a' + i)), Account: "root"}})
	}
	return l
}

func need(t *testing.T, l []api.Job, id uint32, text string) {
	t.Helper()
	d, e := depend.Parse(text)
	if e != api.OK {
		t.Fatal(text, e)
	}
	l[id-1].Spec.Depend = d
}

func TestHow(t *testing.T) {
	for how, want := range map[int]int{
		0: 0, 1: api.HowWaiting, 2: api.HowWaiting, 3: api.HowRunning, 4: api.HowRunning, 5: api.HowOK, 6: api.HowBad, 7: api.HowBad, 8: api.HowBad, 9: api.HowBad,
		10: 0, -1: 0, api.MaxInt: 0, api.MinInt: 0,
	} {
		if got := waits.How(api.Job{How: how}); got != want {
			t.Error(how, got)
		}
	}
}

func TestCheck(t *testing.T) {
	bad := [][]api.Job{
		row(0), row(1, 10), row(1, -1, 1), row(api.MaxInt),
		{{ID: 0, How: 1}}, {{ID: 2, How: 1}}, {{ID: 1, How: 1}, {ID: 1, How: 1}}, {{ID: 1, How: 1}, {ID: 3, How: 1}}, {{ID: 2, How: 1}, {ID: 1, How: 1}}, {{ID: 1, How: 1}, {ID: 2, How: 1}, {ID: 4, How: 1}},
	}
	for _, l := range bad {
		if e := waits.Check(l); e != api.ErrArg {
			t.Error(l, e)
		}
		for id := range uint32(4) {
			if waits.Alone(l, id) || waits.Room(l, id) || waits.Say(l, id, 5) != 0 {
				t.Error(l, id)
			}
		}
		if len(waits.Ready(l, 5)) != 0 || len(waits.Never(l)) != 0 {
			t.Error(l)
		}
	}
	never := row(0, 1)
	need(t, never, 2, "after:9")
	if len(waits.Never(never)) != 0 {
		t.Error("Never of what is no table")
	}
	for _, l := range [][]api.Job{nil, row(1), row(1, 2, 3, 4, 5, 6, 7, 8, 9)} {
		if e := waits.Check(l); e != api.OK {
			t.Error(l, e)
		}
		for _, id := range []uint32{0, uint32(len(l) + 1), 1<<32 - 1} {
			if waits.Alone(l, id) || waits.Room(l, id) || waits.Say(l, id, 5) != 0 {
				t.Error(l, id)
			}
		}
	}
	if len(waits.Ready(nil, 5)) != 0 || len(waits.Never(nil)) != 0 {
		t.Error("of nothing")
	}
}

func TestAlone(t *testing.T) {
	for other := 1; other <= 9; other++ {
		for how := 1; how <= 9; how++ {
			for _, id := range []uint32{1, 2} {
				l := row(how, how, how)
				l[0].Spec.Name, l[1].Spec.Name = "x", "x"
				l[2-id].How = other
				want := other > 4 || other < 3 && id == 1
				if got := waits.Alone(l, id); got != want {
					t.Error(id, how, other, got)
				}
				if got := waits.Alone(l, 3); !got {
					t.Error("another name")
				}
				l[0].Spec.Account = "ann"
				if got := waits.Alone(l, id); !got {
					t.Error("another account")
				}
			}
		}
	}
	l := row(5, 5, 1, 3)
	l[0].Spec.Name, l[1].Spec.Name, l[2].Spec.Name, l[3].Spec.Name = "x", "x", "x", "x"
	if waits.Alone(l, 3) {
		t.Error("one with a greater number runs")
	}
}

func TestRoom(t *testing.T) {
	for most := range 4 {
		for _, how := range []int{api.JobRunning, api.JobSuspended} {
			for running := range 4 {
				l := row(1, 1, 1, 1, 3, 3)
				for i := range l {
					l[i].Array, l[i].Spec.Array = 1, api.Array{L: []int{1, 2, 3, 4}, Most: most}
					if i < running {
						l[i].How = how
					}
				}
				l[4].Array, l[5].Array = 0, 5
				want := most == 0 || running < most
				for id := uint32(1); id <= 4; id++ {
					if got := waits.Room(l, id); got != want {
						t.Error(most, running, id, got)
					}
					if say := waits.Say(l, id, 0); l[id-1].How == 1 && (say == api.SayReady) != want {
						t.Error(most, running, id, say)
					}
				}
				if !waits.Room(l, 5) || waits.Room(l, 6) != (most != 1) {
					t.Error(most, "of no array, or of another one")
				}
			}
		}
	}
	l := row(1, 1, 2, 5, 6, 7, 8, 9)
	for i := range l {
		l[i].Array, l[i].Spec.Array = 1, api.Array{L: []int{1, 2, 3, 4, 5, 6, 7, 8}, Most: 1}
	}
	if !waits.Room(l, 1) {
		t.Error("none runs")
	}
}

func TestSay(t *testing.T) {
	for how := 1; how <= 9; how++ {
		l := row(how, 5)
		want := 0
		switch how {
		case 1:
			want = api.SayReady
		case 2:
			want = api.SayWait
		}
		if say := waits.Say(l, 1, 0); say != want {
			t.Error(how, say)
		}
		need(t, l, 1, "afternotok:2")
		if want > 0 {
			want = api.SayNever
		}
		if say := waits.Say(l, 1, 0); say != want {
			t.Error(how, say)
		}
		l[0].Spec.Begin = 9
		if say := waits.Say(l, 1, 0); say != want {
			t.Error(how, say)
		}
	}
}

func TestBegin(t *testing.T) {
	l := row(1)
	l[0].Spec.Begin = 7
	for _, x := range [][2]int{{0, api.SayWait}, {6, api.SayWait}, {7, api.SayReady}, {8, api.SayReady}, {api.MaxInt, api.SayReady}, {api.MinInt, api.SayWait}} {
		if say := waits.Say(l, 1, x[0]); say != x[1] {
			t.Error(x, say)
		}
		if got := waits.Ready(l, x[0]); (len(got) == 1) != (x[1] == api.SayReady) {
			t.Error(x, got)
		}
	}
}

func TestWhatIsNoDependency(t *testing.T) {
	l := row(1, 2)
	l[0].Spec.Depend = api.Depend{L: []api.Need{{Kind: 7}}}
	l[1].Spec.Depend = api.Depend{Any: true}
	if waits.Say(l, 1, 5) != 0 || waits.Say(l, 2, 5) != 0 || len(waits.Ready(l, 5)) != 0 || len(waits.Never(l)) != 0 {
		t.Error("said")
	}
}

func TestExample(t *testing.T) {
	l := row(5, 1, 1, 1)
	need(t, l, 2, "afterok:1")
	need(t, l, 3, "afternotok:1")
	need(t, l, 4, "afterok:3")
	if ready := waits.Ready(l, 0); !slices.Equal(ready, []uint32{2}) {
		t.Error(ready)
	}
	if never := waits.Never(l); !slices.Equal(never, []uint32{3}) {
		t.Error(never)
	}
	if waits.Say(l, 4, 0) != api.SayWait {
		t.Error("4 still waits")
	}
	l[2].How = api.JobNever
	if never := waits.Never(l); !slices.Equal(never, []uint32{4}) {
		t.Error(never)
	}
}

func TestDependenciesOnEachState(t *testing.T) {
	const w, r, n = api.SayWait, api.SayReady, api.SayNever
	for text, want := range map[string][10]int{
		"after:2":      {0, w, w, r, r, r, r, r, r, r},
		"afterok:2":    {0, w, w, w, w, r, n, n, n, n},
		"afternotok:2": {0, w, w, w, w, n, r, r, r, r},
		"afterany:2":   {0, w, w, w, w, r, r, r, r, r},
		"after:3":      {0, n, n, n, n, n, n, n, n, n},
		"after:1":      {0, w, w, w, w, w, w, w, w, w},
	} {
		for how := 1; how <= 9; how++ {
			l := row(1, how)
			need(t, l, 1, text)
			if say := waits.Say(l, 1, 0); say != want[how] {
				t.Error(text, how, say)
			}
			l[0].How = api.JobHeld
			if say := waits.Say(l, 1, 0); say != want[how] && (want[how] != r || say != w) {
				t.Error("held:", text, how, say)
			}
		}
	}
}

func TestSingletons(t *testing.T) {
	l := row(1, 1, 2, 1)
	for i := range l {
		l[i].Spec.Name = "x"
		need(t, l, l[i].ID, "singleton")
	}
	if ready := waits.Ready(l, 0); !slices.Equal(ready, []uint32{1}) {
		t.Error(ready)
	}
	l[0].How = api.JobRunning
	if ready := waits.Ready(l, 0); len(ready) != 0 {
		t.Error(ready)
	}
	l[0].How = api.JobDone
	if ready := waits.Ready(l, 0); !slices.Equal(ready, []uint32{2}) {
		t.Error(ready)
	}
	l[1].How = api.JobNever
	if ready := waits.Ready(l, 0); len(ready) != 0 {
		t.Error("3 is held, and 4 comes after it:", ready)
	}
	l[2].How = api.JobCancelled
	if ready := waits.Ready(l, 0); !slices.Equal(ready, []uint32{4}) {
		t.Error(ready)
	}
}

// random makes jobs that depend on one another.
func random(r *rand.Rand) []api.Job {
	hows := []int{}
	for range 1 + r.Intn(8) {
		hows = append(hows, []int{1, 1, 1, 2, 3, 4, 5, 6, 7, 8, 9}[r.Intn(11)])
	}
	l := row(hows...)
	for i := range l {
		s := &l[i].Spec
		s.Name, s.Begin = []string{"x", "y"}[r.Intn(2)], r.Intn(3)
		for range r.Intn(3) {
			n := api.Need{Kind: 1 + r.Intn(5)}
			if n.Kind != api.NeedSingleton {
				n.Jobs = []uint32{uint32(1 + r.Intn(9))}
			}
			s.Depend.L = append(s.Depend.L, n)
		}
		s.Depend.Any = len(s.Depend.L) > 1 && r.Intn(2) == 0
		if r.Intn(2) == 0 {
			l[i].Array, s.Array = 1, api.Array{L: []int{1}, Most: r.Intn(3)}
		}
	}
	return l
}

func TestSayLikeTheChapter(t *testing.T) {
	r := rand.New(rand.NewSource(25))
	for range 5000 {
		l := random(r)
		wheres := []api.Where{}
		for _, j := range l {
			wheres = append(wheres, api.Where{Job: j.ID, How: waits.How(j)})
		}
		kept := slices.Clone(l)
		now := r.Intn(3)
		ready, never := []uint32{}, []uint32{}
		for _, j := range l {
			want := 0
			if j.How <= api.JobHeld {
				want = depend.Say(j.Spec.Depend, wheres, waits.Alone(l, j.ID))
				if want == api.SayReady && (j.How == api.JobHeld || j.Spec.Begin > now || !waits.Room(l, j.ID)) {
					want = api.SayWait
				}
			}
			if say := waits.Say(l, j.ID, now); say != want {
				t.Fatal(l, j.ID, say, want)
			}
			switch want {
			case api.SayReady:
				ready = append(ready, j.ID)
			case api.SayNever:
				never = append(never, j.ID)
			}
		}
		if got := waits.Ready(l, now); !slices.Equal(got, ready) {
			t.Fatal(got, ready)
		}
		if got := waits.Never(l); !slices.Equal(got, never) {
			t.Fatal(got, never)
		}
		if !reflect.DeepEqual(l, kept) {
			t.Fatal("an argument was changed")
		}
	}
}

func TestWhenAllOthersHaveEndedAJobIsReadyOrNever(t *testing.T) {
	r := rand.New(rand.NewSource(26))
	for range 3000 {
		l := random(r)
		i := r.Intn(len(l))
		for k := range l {
			l[k].How = 5 + r.Intn(5)
		}
		l[i].How = api.JobWaiting
		own := slices.Contains(depend.Jobs(l[i].Spec.Depend), l[i].ID) // one that waits for itself waits for ever
		say := waits.Say(l, l[i].ID, l[i].Spec.Begin)
		if say != api.SayReady && say != api.SayNever && !own {
			t.Fatal(l, i, say)
		}
	}
}
