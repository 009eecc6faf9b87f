package backfill_test

import (
	"math/rand"
	"reflect"
	"slices"
	"testing"

	"ganger/api"
	"ganger/backfill"
)

func block(start, order int) api.Block {
	return api.Block{Start: start, Order: order}
}

func held(start, order, from, to int) api.Held {
	return api.Held{Block: block(start, order), From: from, To: to}
}

func slot(id uint32, start, order, at int) api.Slot {
	return api.Slot{ID: id, Block: block(start, order), At: at}
}

func bad() []api.Scene {
	l := []api.Scene{
		{Order: -1}, {Order: api.MaxOrder + 1}, {Order: api.MinInt}, {Order: api.MaxInt},
		{Order: 2, Failed: []int{-1}}, {Order: 2, Failed: []int{4}}, {Order: 2, Failed: []int{1, 1}}, {Order: 2, Failed: []int{2, 1}}, {Order: 2, Failed: []int{0, 3, 4}}, {Order: 2, Failed: []int{api.MinInt, api.MaxInt}},
		{Order: 0, L: slices.Repeat([]api.Held{held(0, 0, 0, 1)}, api.MaxHeld+1)},
	}
	for _, h := range []api.Held{
		held(0, -1, 0, 1), held(0, 3, 0, 1), held(-1, 0, 0, 1), held(4, 0, 0, 1), held(1, 1, 0, 1), held(2, 2, 0, 1), held(-2, 1, 0, 1), held(-4, 2, 0, 1), held(4, 2, 0, 1),
		held(0, 0, -1, 1), held(0, 0, 1, 1), held(0, 0, 2, 1), held(0, 0, 0, 1<<42+1), held(0, 0, 0, 0), held(0, 0, api.MinInt, api.MaxInt), held(0, 0, api.MaxInt, api.MinInt),
		held(api.MaxInt, 0, 0, 1), held(api.MinInt, 1, 0, 1), held(0, api.MaxInt, 0, 1), held(0, api.MinInt, 0, 1),
	} {
		l = append(l, api.Scene{Order: 2, L: []api.Held{held(0, 0, 0, 1), h}})
	}
	return l
}

func TestCheck(t *testing.T) {
	for _, s := range bad() {
		if e := backfill.Check(s); e != api.ErrArg {
			t.Error(s, e)
		}
		if backfill.Free(s, block(0, 0), 0, 1) {
			t.Error(s)
		}
		if start, ok := backfill.At(s, 0, 0, 1); start != 0 || ok {
			t.Error(s, start, ok)
		}
		if tick, start, e := backfill.Earliest(s, 0, 0, 1); tick != 0 || start != 0 || e != api.ErrArg {
			t.Error(s, tick, start, e)
		}
		for _, l := range [][]api.Want{nil, {{ID: 1, Length: 1}}} {
			for i, plan := range plans {
				if slots, e := plan(s, l, 0); len(slots) != 0 || e != api.ErrArg {
					t.Error(i, s, l, slots, e)
				}
			}
		}
	}
	for _, s := range []api.Scene{
		{}, {Order: api.MaxOrder}, {Order: 2, Failed: []int{0, 1, 2, 3}}, {Order: 10, Failed: []int{1023}},
		{Order: 2, L: []api.Held{held(0, 2, 0, 1), held(0, 2, 0, 1), held(3, 0, 5, 1<<42), held(2, 1, 1<<42-1, 1<<42)}},
		{Order: 0, L: slices.Repeat([]api.Held{held(0, 0, 0, 1)}, api.MaxHeld)},
	} {
		if e := backfill.Check(s); e != api.OK {
			t.Error(s, e)
		}
	}
}

var plans = []func(api.Scene, []api.Want, int) ([]api.Slot, api.Errno){fifo: backfill.FIFO, easy: backfill.Easy, conservative: backfill.Conservative}

func TestExample(t *testing.T) {
	s := api.Scene{Order: 2, L: []api.Held{held(0, 1, 0, 10)}}
	l := []api.Want{{ID: 1, Order: 2, Length: 5}, {ID: 2, Order: 1, Length: 10}, {ID: 3, Order: 0, Length: 20}}
	for policy, want := range [][]api.Slot{fifo: nil, easy: {slot(1, 0, 2, 10), slot(2, 2, 1, 0)}, conservative: {slot(1, 0, 2, 10), slot(2, 2, 1, 0), slot(3, 0, 0, 15)}} {
		if slots, e := plans[policy](s, l, 0); e != api.OK || !slices.Equal(slots, want) {
			t.Error(policy, slots, e)
		}
	}
}

func TestFree(t *testing.T) {
	s := api.Scene{Order: 3, Failed: []int{5}, L: []api.Held{held(0, 1, 4, 8), held(2, 0, 6, 7)}}
	for _, x := range []struct {
		b        api.Block
		from, to int
		want     bool
	}{
		{block(0, 1), 0, 4, true}, {block(0, 1), 0, 5, false}, {block(0, 1), 8, 9, true}, {block(0, 1), 7, 8, false}, {block(0, 1), 4, 5, false}, {block(1, 0), 3, 5, false}, {block(0, 2), 0, 4, true}, {block(0, 2), 0, 100, false},
		{block(2, 1), 0, 6, true}, {block(2, 1), 6, 7, false}, {block(2, 1), 7, 8, true}, {block(3, 0), 0, 100, true}, {block(2, 0), 5, 7, false}, {block(2, 0), 0, 100, false},
		{block(4, 0), 0, api.MaxInt, true}, {block(5, 0), 0, 1, false}, {block(4, 1), 0, 1, false}, {block(4, 2), 0, 1, false}, {block(6, 1), 0, 1, true}, {block(0, 3), 0, 1, false},
		{block(0, 0), -1, 1, false}, {block(0, 0), 1, 1, false}, {block(0, 0), 2, 1, false}, {block(0, 0), api.MinInt, api.MaxInt, false},
		{block(8, 0), 0, 1, false}, {block(-1, 0), 0, 1, false}, {block(1, 1), 0, 1, false}, {block(0, 4), 0, 1, false}, {block(0, -1), 0, 1, false}, {block(api.MaxInt, 0), 0, 1, false}, {block(0, api.MaxInt), 0, 1, false}, {block(api.MinInt, api.MinInt), 0, 1, false},
	} {
		if got := backfill.Free(s, x.b, x.from, x.to); got != x.want {
			t.Error(x, got)
		}
	}
}

func TestAtAndEarliestRefuse(t *testing.T) {
	s := api.Scene{Order: 1, Failed: []int{1}}
	for _, x := range [][3]int{{-1, 0, 1}, {2, 0, 1}, {1, 0, 1}, {0, -1, 1}, {0, 1, 1}, {0, 2, 1}, {api.MaxInt, 0, 1}, {api.MinInt, 0, 1}} {
		if start, ok := backfill.At(s, x[0], x[1], x[2]); start != 0 || ok {
			t.Error(x, start, ok)
		}
	}
	for _, x := range []struct {
		order, from, length int
		e                   api.Errno
	}{
		{-1, 0, 1, api.ErrArg}, {2, 0, 1, api.ErrArg}, {0, -1, 1, api.ErrArg}, {0, api.MaxTime + 1, 1, api.ErrArg}, {0, 0, 0, api.ErrArg}, {0, 0, -1, api.ErrArg}, {0, 0, api.MaxTime + 1, api.ErrArg},
		{api.MinInt, api.MinInt, api.MinInt, api.ErrArg}, {api.MaxInt, api.MaxInt, api.MaxInt, api.ErrArg}, {1, 0, 1, api.ErrFull}, {1, 0, 0, api.ErrArg},
	} {
		if tick, start, e := backfill.Earliest(s, x.order, x.from, x.length); tick != 0 || start != 0 || e != x.e {
			t.Error(x, tick, start, e)
		}
	}
	if tick, start, e := backfill.Earliest(s, 0, api.MaxTime, api.MaxTime); tick != api.MaxTime || start != 0 || e != api.OK {
		t.Error(tick, start, e)
	}
}

func TestEarliestAfterMaxTime(t *testing.T) {
	s := api.Scene{Order: 0, L: []api.Held{held(0, 0, 0, 1<<42)}}
	if tick, start, e := backfill.Earliest(s, 0, 5, api.MaxTime); tick != 1<<42 || start != 0 || e != api.OK {
		t.Error(tick, start, e)
	}
}

func TestEarliestTriesTheEndsOnly(t *testing.T) {
	// Worker 0 is free before 5, but not long enough; worker 1 is from 9 on.
	s := api.Scene{Order: 1, L: []api.Held{held(0, 0, 5, 7), held(1, 0, 0, 9)}}
	for _, x := range [][4]int{{0, 5, 0, 0}, {0, 6, 7, 0}, {1, 4, 1, 0}, {1, 5, 7, 0}, {3, 3, 7, 0}, {8, 1, 8, 0}, {9, 9, 9, 0}} {
		if tick, start, e := backfill.Earliest(s, 0, x[0], x[1]); tick != x[2] || start != x[3] || e != api.OK {
			t.Error(x, tick, start, e)
		}
	}
	if tick, start, e := backfill.Earliest(s, 1, 0, 1); tick != 9 || start != 0 || e != api.OK {
		t.Error(tick, start, e)
	}
}

// random makes a scene of few ticks.
func random(r *rand.Rand) api.Scene {
	s := api.Scene{Order: r.Intn(5)}
	for w := range 1 << s.Order {
		if r.Intn(8) == 0 {
			s.Failed = append(s.Failed, w)
		}
	}
	for range r.Intn(10) {
		order := r.Intn(s.Order + 1)
		from := r.Intn(20)
		s.L = append(s.L, held(r.Intn(1<<(s.Order-order))<<order, order, from, from+1+r.Intn(10)))
	}
	return s
}

func clone(s api.Scene) api.Scene {
	s.Failed, s.L = slices.Clone(s.Failed), slices.Clone(s.L)
	return s
}

func TestLikeTheModel(t *testing.T) {
	r := rand.New(rand.NewSource(27))
	for range 4000 {
		s := random(r)
		kept := clone(s)
		for range 10 {
			order, from, length := r.Intn(s.Order+1), r.Intn(25), 1+r.Intn(9)
			b := block(r.Intn(1<<s.Order), order)
			if got := backfill.Free(s, b, from, from+length); got != modelFree(s, b, from, from+length) {
				t.Fatal("Free", s, b, from, length, got)
			}
			start, ok := backfill.At(s, order, from, from+length)
			if wantStart, wantOK := modelAt(s, order, from, from+length); start != wantStart || ok != wantOK {
				t.Fatal("At", s, order, from, length, start, ok)
			}
			tick, start, e := backfill.Earliest(s, order, from, length)
			if wantTick, wantStart, wantE := modelEarliest(s, order, from, length); tick != wantTick || start != wantStart || e != wantE {
				t.Fatal("Earliest", s, order, from, length, tick, start, e)
			}
		}
		if !reflect.DeepEqual(s, kept) {
			t.Fatal("an argument was changed")
		}
	}
}

func randomWants(r *rand.Rand, most int) []api.Want {
	l := []api.Want{}
	for i := range r.Intn(9) {
		l = append(l, api.Want{ID: uint32(i + 1), Order: r.Intn(most + 2), Length: 1 + r.Intn(12)})
	}
	return l
}

func TestPlansLikeTheModel(t *testing.T) {
	r := rand.New(rand.NewSource(28))
	for range 6000 {
		s := random(r)
		l, now := randomWants(r, s.Order), r.Intn(22)
		keptS, keptL := clone(s), slices.Clone(l)
		for policy, plan := range plans {
			slots, e := plan(s, l, now)
			if want := modelPlan(policy, s, l, now); e != api.OK || !slices.Equal(slots, want) {
				t.Fatal(policy, s, l, now, slots, e, want)
			}
		}
		if !reflect.DeepEqual(s, keptS) || !slices.Equal(l, keptL) {
			t.Fatal("an argument was changed")
		}
	}
}

func TestNoWorkerTwice(t *testing.T) {
	r := rand.New(rand.NewSource(29))
	for range 2000 {
		s := random(r)
		l, now := randomWants(r, s.Order), r.Intn(22)
		for policy, plan := range plans {
			slots, _ := plan(s, l, now)
			scene := clone(s)
			for _, x := range slots {
				length := l[x.ID-1].Length
				if x.Block.Order != l[x.ID-1].Order || x.At < now || !modelFree(scene, x.Block, x.At, x.At+length) {
					t.Fatal(policy, s, l, now, slots)
				}
				scene.L = append(scene.L, api.Held{Block: x.Block, From: x.At, To: x.At + length})
			}
		}
	}
}

func TestNobodyIsDelayed(t *testing.T) {
	r := rand.New(rand.NewSource(30))
	for range 2000 {
		s := random(r)
		l, now := randomWants(r, s.Order), r.Intn(22)
		whole, _ := backfill.Conservative(s, l, now)
		for n := range len(l) + 1 {
			begin, _ := backfill.Conservative(s, l[:n], now)
			if !slices.Equal(begin, whole[:len(begin)]) {
				t.Fatal("Conservative", s, l, now, begin, whole)
			}
		}
		whole, _ = backfill.Easy(s, l, now)
		first := slices.IndexFunc(whole, func(x api.Slot) bool { return x.At > now })
		if first >= 0 {
			begin, _ := backfill.Easy(s, l[:whole[first].ID], now)
			if !slices.Equal(begin, whole[:first+1]) {
				t.Fatal("Easy", s, l, now, begin, whole)
			}
		}
	}
}

func TestPlansRefuse(t *testing.T) {
	s := api.Scene{Order: 1}
	for i, plan := range plans {
		for _, w := range []api.Want{{Order: -1, Length: 1}, {Order: api.MinInt, Length: 1}, {Length: 0}, {Length: -1}, {Length: api.MaxTime + 1}, {Order: 5, Length: 0}, {Length: api.MaxInt}} {
			if slots, e := plan(s, []api.Want{{ID: 1, Length: 1}, w}, 0); len(slots) != 0 || e != api.ErrArg {
				t.Error(i, w, slots, e)
			}
		}
		for _, now := range []int{-1, api.MaxTime + 1, api.MinInt, api.MaxInt} {
			if slots, e := plan(s, nil, now); len(slots) != 0 || e != api.ErrArg {
				t.Error(i, now, slots, e)
			}
		}
		if slots, e := plan(s, slices.Repeat([]api.Want{{Length: 1}}, api.MaxHeld+1), 0); len(slots) != 0 || e != api.ErrArg {
			t.Error(i, slots, e)
		}
		if slots, e := plan(s, []api.Want{{ID: 9, Order: 2, Length: 1}, {ID: 9, Order: api.MaxInt, Length: api.MaxTime}, {ID: 0, Order: 1, Length: api.MaxTime}}, api.MaxTime); e != api.OK || !slices.Equal(slots, []api.Slot{slot(0, 0, 1, api.MaxTime)}) {
			t.Error(i, slots, e)
		}
	}
}

func TestAJobThatNeverFitsIsSkipped(t *testing.T) {
	s := api.Scene{Order: 2, Failed: []int{1}, L: []api.Held{held(2, 1, 0, 9)}}
	l := []api.Want{{ID: 1, Order: 2, Length: 1}, {ID: 2, Order: 3, Length: 1}, {ID: 3, Order: 0, Length: 1}, {ID: 4, Order: 1, Length: 3}, {ID: 5, Order: 0, Length: 50}}
	for policy, want := range [][]api.Slot{fifo: {slot(3, 0, 0, 0)}, easy: {slot(3, 0, 0, 0), slot(4, 2, 1, 9)}, conservative: {slot(3, 0, 0, 0), slot(4, 2, 1, 9), slot(5, 0, 0, 1)}} {
		if slots, e := plans[policy](s, l, 0); e != api.OK || !slices.Equal(slots, want) {
			t.Error(policy, slots, e)
		}
	}
}

func TestMoreThanAScenePermits(t *testing.T) {
	// Scene and slots are together more than MaxHeld, and the slots end long after 2^42.
	s := api.Scene{Order: 0, L: slices.Repeat([]api.Held{held(0, 0, 0, 7)}, api.MaxHeld)}
	l := []api.Want{}
	for i := range api.MaxHeld {
		l = append(l, api.Want{ID: uint32(i + 1), Length: api.MaxTime})
	}
	slots, e := backfill.Conservative(s, l, 3)
	if e != api.OK || len(slots) != api.MaxHeld {
		t.Fatal(len(slots), e)
	}
	for i, x := range slots {
		if x != slot(uint32(i+1), 0, 0, 7+i*api.MaxTime) {
			t.Fatal(i, x)
		}
	}
	if slots, e := backfill.Easy(s, l, 3); e != api.OK || !slices.Equal(slots, []api.Slot{slot(1, 0, 0, 7)}) {
		t.Error(slots, e)
	}
	if slots, e := backfill.FIFO(s, l, 7); e != api.OK || !slices.Equal(slots, []api.Slot{slot(1, 0, 0, 7)}) {
		t.Error(slots, e)
	}
}

func TestTheGreatestScene(t *testing.T) {
	r := rand.New(rand.NewSource(31))
	s := api.Scene{Order: api.MaxOrder, Failed: []int{0, 1023}}
	l := []api.Want{}
	for i := range api.MaxHeld {
		order := r.Intn(api.MaxOrder)
		from := r.Intn(1000)
		s.L = append(s.L, held(r.Intn(1<<(s.Order-order))<<order, order, from, from+1+r.Intn(1000)))
		l = append(l, api.Want{ID: uint32(i + 1), Order: r.Intn(api.MaxOrder + 1), Length: 1 + r.Intn(1000)})
	}
	slots, e := backfill.Conservative(s, l, 500)
	if e != api.OK || len(slots) == 0 {
		t.Fatal(len(slots), e)
	}
	for i, x := range slots {
		for _, y := range slots[:i] {
			high := max(x.Block.Order, y.Block.Order)
			if x.Block.Start>>high == y.Block.Start>>high && x.At < y.At+l[y.ID-1].Length && y.At < x.At+l[x.ID-1].Length {
				t.Fatal(x, y)
			}
		}
	}
}
