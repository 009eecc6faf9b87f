package buddy_test

import (
	"math/rand"
	"slices"
	"testing"

	"ganger/api"
	"ganger/buddy"
)

func yard(t *testing.T, order int) *buddy.Yard {
	t.Helper()
	y, e := buddy.New(order)
	if e != api.OK || y == nil {
		t.Fatal(order, y, e)
	}
	return y
}

func wantFree(t *testing.T, y *buddy.Yard, want ...api.Block) {
	t.Helper()
	if got := y.Free(); !slices.Equal(got, want) {
		t.Errorf("free are %v; want %v", got, want)
	}
}

func block(start, order int) api.Block {
	return api.Block{Start: start, Order: order}
}

func TestNew(t *testing.T) {
	for order := 0; order <= api.MaxOrder; order++ {
		y := yard(t, order)
		if y.Order() != order || len(y.Taken()) != 0 || len(y.Failed()) != 0 {
			t.Error(order, y.Order(), y.Taken(), y.Failed())
		}
		wantFree(t, y, block(0, order))
	}
	for _, order := range []int{-1, api.MaxOrder + 1, api.MinInt, api.MaxInt} {
		if y, e := buddy.New(order); y != nil || e != api.ErrArg {
			t.Error(order, y, e)
		}
	}
}

func TestExample(t *testing.T) {
	y := yard(t, 3)
	for _, x := range [][2]int{{1, 0}, {0, 2}, {1, 4}} {
		if start, e := y.Take(x[0]); start != x[1] || e != api.OK {
			t.Error(x, start, e)
		}
	}
	wantFree(t, y, block(3, 0), block(6, 1))
	if e := y.Fail(7); e != api.OK {
		t.Error(e)
	}
	wantFree(t, y, block(3, 0), block(6, 0))
	if e := y.Give(0); e != api.OK {
		t.Error(e)
	}
	wantFree(t, y, block(0, 1), block(3, 0), block(6, 0))
	if !y.Would(2, []int{2}) || y.Would(2, nil) || y.Would(2, []int{4}) {
		t.Error("Would")
	}
}

func TestNil(t *testing.T) {
	var y *buddy.Yard
	start, e := y.Take(0)
	if start != 0 || e != api.ErrNil {
		t.Error(start, e)
	}
	for _, e := range []api.Errno{y.TakeAt(block(0, 0)), y.Give(0), y.Fail(0), y.Heal(0), y.Fail(-1), y.Heal(-1), y.TakeAt(block(-1, 0))} {
		if e != api.ErrNil {
			t.Error(e)
		}
	}
	if b, ok := y.Held(0); b != (api.Block{}) || ok {
		t.Error(b, ok)
	}
	if y.Order() != 0 || len(y.Failed()) != 0 || len(y.Free()) != 0 || len(y.Taken()) != 0 || y.Fits(0) || y.Would(0, nil) {
		t.Error("a nil yard answers")
	}
}

func TestTakePrefersTheSmallestSufficientBlock(t *testing.T) {
	y := yard(t, 4)
	for _, b := range []api.Block{block(0, 1), block(8, 0), block(12, 1)} {
		if e := y.TakeAt(b); e != api.OK {
			t.Fatal(b, e)
		}
	}
	wantFree(t, y, block(2, 1), block(4, 2), block(9, 0), block(10, 1), block(14, 1))
	for _, x := range [][2]int{{0, 9}, {0, 2}, {0, 3}, {2, 4}, {1, 10}, {1, 14}} {
		if start, e := y.Take(x[0]); start != x[1] || e != api.OK {
			t.Error(x, start, e)
		}
	}
	if start, e := y.Take(0); start != 0 || e != api.ErrFull {
		t.Error(start, e)
	}
	if start, e := y.Take(5); start != 0 || e != api.ErrArg {
		t.Error(start, e)
	}
	if start, e := y.Take(-1); start != 0 || e != api.ErrArg {
		t.Error(start, e)
	}
}

func TestTakeAtRefuses(t *testing.T) {
	y := yard(t, 3)
	y.TakeAt(block(2, 1))
	y.Fail(7)
	for _, x := range []struct {
		b api.Block
		e api.Errno
	}{
		{block(0, -1), api.ErrArg}, {block(0, 4), api.ErrArg}, {block(-1, 0), api.ErrArg}, {block(8, 0), api.ErrArg},
		{block(1, 1), api.ErrArg}, {block(2, 2), api.ErrArg}, {block(4, 3), api.ErrArg}, {block(-2, 1), api.ErrArg},
		{block(api.MaxInt, 0), api.ErrArg}, {block(api.MinInt, 1), api.ErrArg}, {block(0, api.MaxInt), api.ErrArg}, {block(0, api.MinInt), api.ErrArg},
		{block(8, 3), api.ErrArg}, {block(3, 1), api.ErrArg},
		{block(2, 1), api.ErrFull}, {block(2, 0), api.ErrFull}, {block(3, 0), api.ErrFull}, {block(0, 2), api.ErrFull}, {block(0, 3), api.ErrFull},
		{block(7, 0), api.ErrFull}, {block(6, 1), api.ErrFull}, {block(4, 2), api.ErrFull},
	} {
		before := y.Free()
		if e := y.TakeAt(x.b); e != x.e || !slices.Equal(y.Free(), before) {
			t.Error(x, e)
		}
	}
	for _, b := range []api.Block{block(0, 1), block(4, 1), block(6, 0)} {
		if e := y.TakeAt(b); e != api.OK {
			t.Error(b, e)
		}
	}
	wantFree(t, y)
}

func TestGiveRefuses(t *testing.T) {
	y := yard(t, 3)
	y.TakeAt(block(2, 1))
	for _, start := range []int{0, 1, 3, 4, -1, 8, api.MaxInt, api.MinInt} {
		if e := y.Give(start); e != api.ErrNone {
			t.Error(start, e)
		}
	}
	if e := y.Give(2); e != api.OK {
		t.Error(e)
	}
	if e := y.Give(2); e != api.ErrNone {
		t.Error(e)
	}
	wantFree(t, y, block(0, 3))
}

func TestFailAndHeal(t *testing.T) {
	y := yard(t, 2)
	y.TakeAt(block(0, 1))
	for _, x := range []struct {
		e, want api.Errno
	}{
		{y.Fail(-1), api.ErrArg}, {y.Fail(4), api.ErrArg}, {y.Heal(-1), api.ErrArg}, {y.Heal(4), api.ErrArg},
		{y.Heal(1), api.ErrNone}, {y.Fail(1), api.OK}, {y.Fail(1), api.ErrTwice}, {y.Fail(3), api.OK}, {y.Fail(3), api.ErrTwice},
	} {
		if x.e != x.want {
			t.Error(x)
		}
	}
	if got := y.Failed(); !slices.Equal(got, []int{1, 3}) {
		t.Error(got)
	}
	if b, ok := y.Held(1); b != block(0, 1) || !ok {
		t.Error("a failed worker is in its taken block all the same:", b, ok)
	}
	if b, ok := y.Held(3); b != (api.Block{}) || ok {
		t.Error(b, ok)
	}
	y.Give(0)
	wantFree(t, y, block(0, 0), block(2, 0))
	if e := y.Heal(3); e != api.OK {
		t.Error(e)
	}
	wantFree(t, y, block(0, 0), block(2, 1))
	if e := y.Heal(1); e != api.OK {
		t.Error(e)
	}
	if e := y.Heal(1); e != api.ErrNone {
		t.Error(e)
	}
	wantFree(t, y, block(0, 2))
}

func TestAWorkerRepairedInATakenBlockIsFreeOnlyAfterIt(t *testing.T) {
	y := yard(t, 1)
	y.Take(1)
	y.Fail(0)
	y.Heal(0)
	wantFree(t, y)
	if y.Fits(0) {
		t.Error("fits")
	}
	y.Give(0)
	wantFree(t, y, block(0, 1))
}

func TestResultsAreNewMemory(t *testing.T) {
	y := yard(t, 3)
	y.Take(1)
	y.Fail(7)
	y.Free()[0] = block(77, 7)
	y.Taken()[0] = block(77, 7)
	y.Failed()[0] = 77
	free, taken, failed := y.Free(), y.Taken(), y.Failed()
	_, _, _ = append(free, block(9, 9)), append(taken, block(9, 9)), append(failed, 9)
	y.Take(0)
	y.Fail(6)
	if !slices.Equal(free, []api.Block{block(2, 1), block(4, 1), block(6, 0)}) || !slices.Equal(taken, []api.Block{block(0, 1)}) || !slices.Equal(failed, []int{7}) {
		t.Error(free, taken, failed)
	}
	if !slices.Equal(y.Failed(), []int{6, 7}) || !slices.Equal(y.Taken(), []api.Block{block(0, 1), block(6, 0)}) {
		t.Error(y.Failed(), y.Taken())
	}
	gives := []int{2, 0, 0, 5}
	y.Would(2, gives)
	if !slices.Equal(gives, []int{2, 0, 0, 5}) {
		t.Error(gives)
	}
}

func TestFreeWorkersCanBeTakenOneByOne(t *testing.T) {
	y := yard(t, 5)
	for _, w := range []int{0, 7, 8, 31} {
		y.Fail(w)
	}
	y.TakeAt(block(16, 2))
	for range 32 - 4 - 4 {
		if _, e := y.Take(0); e != api.OK {
			t.Fatal(e)
		}
	}
	if y.Fits(0) || len(y.Free()) != 0 {
		t.Error(y.Free())
	}
	for _, b := range y.Taken() {
		y.Give(b.Start)
	}
	for _, w := range y.Failed() {
		y.Heal(w)
	}
	wantFree(t, y, block(0, 5))
}

func TestTheGreatestYard(t *testing.T) {
	y := yard(t, api.MaxOrder)
	for w := range 1024 {
		if start, e := y.Take(0); start != w || e != api.OK {
			t.Fatal(w, start, e)
		}
	}
	for w := 1; w < 1024; w += 2 {
		y.Give(w)
	}
	if len(y.Free()) != 512 || y.Fits(1) || !y.Fits(0) {
		t.Error(len(y.Free()))
	}
	all := []int{}
	for w := range 1024 {
		all = append(all, w)
	}
	if !y.Would(api.MaxOrder, all) || y.Would(api.MaxOrder, all[1:]) {
		t.Error("Would")
	}
}

func TestYardsAreIndependent(t *testing.T) {
	a, b := yard(t, 2), yard(t, 2)
	a.Take(1)
	a.Fail(3)
	wantFree(t, b, block(0, 2))
}

// step does one thing to both, and tells what each answered.
func step(r *rand.Rand, y *buddy.Yard, m *model) (got, want [2]int) {
	workers := 1 << m.order
	n, order := r.Intn(workers+2)-1, r.Intn(m.order+3)-1
	pair := func(n int, e api.Errno) [2]int { return [2]int{n, int(e)} }
	switch r.Intn(6) {
	case 0, 1:
		return pair(y.Take(order)), pair(m.take(order))
	case 2:
		b := block(n&^r.Intn(8), order)
		return pair(0, y.TakeAt(b)), pair(0, m.takeAt(b))
	case 3:
		return pair(0, y.Give(n)), pair(0, m.give(n))
	case 4:
		return pair(0, y.Fail(n)), pair(0, m.mark(n, true, api.ErrTwice))
	}
	return pair(0, y.Heal(n)), pair(0, m.mark(n, false, api.ErrNone))
}

func compare(t *testing.T, r *rand.Rand, y *buddy.Yard, m *model) {
	t.Helper()
	if !slices.Equal(y.Free(), m.free()) || !slices.Equal(y.Taken(), m.takenList()) || !slices.Equal(y.Failed(), m.failedList()) {
		t.Fatal(y.Free(), m.free(), y.Taken(), m.takenList(), y.Failed(), m.failedList())
	}
	for w := -1; w <= 1<<m.order; w++ {
		b, ok := y.Held(w)
		if wantB, wantOK := m.held(w); b != wantB || ok != wantOK {
			t.Fatal(w, b, ok)
		}
	}
	gives := []int{}
	for range r.Intn(5) {
		gives = append(gives, r.Intn(1<<m.order+2)-1)
	}
	for order := -1; order <= m.order+1; order++ {
		if y.Fits(order) != (order >= 0 && order <= m.order && m.choose(order) >= 0) {
			t.Fatal("Fits", order, y.Free())
		}
		if y.Would(order, gives) != m.would(order, gives) {
			t.Fatal("Would", order, gives, y.Free(), y.Taken())
		}
	}
}

func TestLikeTheModel(t *testing.T) {
	r := rand.New(rand.NewSource(6))
	for range 60 {
		order := r.Intn(6)
		y, m := yard(t, order), newModel(order)
		for range 120 {
			if got, want := step(r, y, m); got != want {
				t.Fatal(got, want, y.Free(), y.Taken(), y.Failed())
			}
			compare(t, r, y, m)
		}
		for _, b := range y.Taken() {
			y.Give(b.Start)
		}
		for _, w := range y.Failed() {
			y.Heal(w)
		}
		wantFree(t, y, block(0, order))
	}
}
