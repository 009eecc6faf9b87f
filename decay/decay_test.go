package decay_test

import (
	"math"
	"testing"

	"ganger/api"
	"ganger/decay"
)

var table = [16]int{65536, 62757, 60097, 57549, 55109, 52773, 50535, 48393, 46341, 44376, 42495, 40693, 38968, 37316, 35734, 34219}

func TestFactorSteps(t *testing.T) {
	for _, half := range []int{16, 32, 160, 1 << 20, 1 << 36} {
		for step := range 16 {
			for _, halves := range []int{0, 1, 7} {
				first := halves*half + step*half/16
				for _, ticks := range []int{first, first + half/16 - 1} {
					if h, f, e := decay.Factor(ticks, half); h != halves || f != table[step] || e != api.OK {
						t.Errorf("Factor(%d, %d) is %d, %d, %d; want %d, %d", ticks, half, h, f, e, halves, table[step])
					}
				}
			}
		}
	}
}

func TestFactorRoundsTheStepDown(t *testing.T) {
	for half := 1; half <= 50; half++ {
		for ticks := range 200 {
			h, f, e := decay.Factor(ticks, half)
			if h != ticks/half || f != table[(ticks%half)*16/half] || e != api.OK {
				t.Errorf("Factor(%d, %d) is %d, %d, %d", ticks, half, h, f, e)
			}
		}
	}
}

func TestFactorEdges(t *testing.T) {
	for _, x := range []struct {
		ticks, half, halves, factor int
		e                           api.Errno
	}{
		{0, 1, 0, 65536, api.OK},
		{api.MaxTicks, 1, api.MaxTicks, 65536, api.OK},
		{api.MaxTicks, api.MaxTicks, 1, 65536, api.OK},
		{api.MaxTicks - 1, api.MaxTicks, 0, 34219, api.OK},
		{api.MaxTicks + 1, 1, 0, 0, api.ErrArg},
		{-1, 1, 0, 0, api.ErrArg},
		{5, 0, 0, 0, api.ErrArg},
		{5, -1, 0, 0, api.ErrArg},
		{5, api.MaxTicks + 1, 0, 0, api.ErrArg},
		{api.MinInt, api.MinInt, 0, 0, api.ErrArg},
		{api.MaxInt, api.MaxInt, 0, 0, api.ErrArg},
	} {
		if h, f, e := decay.Factor(x.ticks, x.half); h != x.halves || f != x.factor || e != x.e {
			t.Error(x, h, f, e)
		}
	}
}

func TestAfter(t *testing.T) {
	for _, x := range []struct {
		n, ticks, half, want int
		e                    api.Errno
	}{
		{1000, 0, 10, 1000, api.OK},
		{1000, 10, 10, 500, api.OK},
		{1000, 5, 10, 707, api.OK},
		{1000, 25, 10, 176, api.OK},
		{1001, 10, 10, 500, api.OK},
		{0, 25, 10, 0, api.OK},
		{1, 9, 10, 0, api.OK},
		{api.MaxInt, 0, 10, api.MaxInt, api.OK},
		{api.MaxInt, 1, 16, 8832262556715319295, api.OK},
		{api.MaxInt, 62, 1, 1, api.OK},
		{api.MaxInt, 63, 1, 0, api.OK},
		{api.MaxInt, 64, 1, 0, api.OK},
		{api.MaxInt, 1 << 32, 1, 0, api.OK},
		{api.MaxInt, 1<<32 + 1, 1, 0, api.OK},
		{api.MaxInt, api.MaxTicks, 1, 0, api.OK},
		{-1, 0, 10, 0, api.ErrArg},
		{5, -1, 10, 0, api.ErrArg},
		{5, api.MaxTicks + 1, 10, 0, api.ErrArg},
		{5, 1, 0, 0, api.ErrArg},
		{5, 1, api.MaxTicks + 1, 0, api.ErrArg},
	} {
		if n, e := decay.After(x.n, x.ticks, x.half); n != x.want || e != x.e {
			t.Error(x, n, e)
		}
	}
}

func TestAfterHalvesBeforeItMultiplies(t *testing.T) {
	// 3 halved is 1, and counts 0 after any step; the other way round 3 would count 2 after a step, halved 1.
	if n, e := decay.After(3, 17, 16); n != 0 || e != api.OK {
		t.Error(n, e)
	}
}

func TestUsageNeverIncreasesWithTime(t *testing.T) {
	for _, n := range []int{0, 1, 2, 15, 1000, 65537, 1 << 40, api.MaxInt} {
		for _, half := range []int{1, 3, 10, 16, 100} {
			last := n
			for ticks := range 70 * half {
				now, e := decay.After(n, ticks, half)
				if e != api.OK || now > last {
					t.Fatalf("After(%d, %d, %d) is %d, %d; before that %d", n, ticks, half, now, e, last)
				}
				more, _ := decay.After(n-n/3, ticks, half)
				if more > now {
					t.Fatalf("After(%d, %d, %d) is less than that of fewer", n, ticks, half)
				}
				last = now
			}
			if last != 0 {
				t.Errorf("%d counts %d after 70 half-lives", n, last)
			}
		}
	}
}

func TestAfterIsNearTheExponential(t *testing.T) {
	for ticks := range 400 {
		n, _ := decay.After(1<<40, ticks, 160)
		want := math.Exp2(40 - float64(ticks/10)/16)
		if math.Abs(float64(n)/want-1) > 0.0001 {
			t.Errorf("after %d of 160 ticks it counts %d; want about %f", ticks, n, want)
		}
	}
}

func TestCharge(t *testing.T) {
	for _, x := range []struct {
		u               api.Usage
		now, more, half int
		want            api.Usage
	}{
		{api.Usage{N: 100, At: 0}, 10, 7, 10, api.Usage{N: 57, At: 10}},
		{api.Usage{}, 0, 0, 1, api.Usage{}},
		{api.Usage{N: 100, At: 5}, 5, 1, 10, api.Usage{N: 101, At: 5}},
		{api.Usage{N: 1000, At: 10}, 15, 0, 10, api.Usage{N: 707, At: 15}},
		{api.Usage{N: api.MaxInt, At: 3}, 3, 1, 10, api.Usage{N: api.MaxInt, At: 3}},
		{api.Usage{N: 1, At: 3}, 3, api.MaxInt, 10, api.Usage{N: api.MaxInt, At: 3}},
		{api.Usage{N: api.MaxInt, At: 0}, 10, api.MaxInt, 10, api.Usage{N: api.MaxInt, At: 10}},
		{api.Usage{N: 5, At: 0}, api.MaxTicks, 3, api.MaxTicks, api.Usage{N: 5, At: api.MaxTicks}},
	} {
		if u, e := decay.Charge(x.u, x.now, x.more, x.half); u != x.want || e != api.OK {
			t.Error(x, u, e)
		}
	}
}

func TestChargeRefuses(t *testing.T) {
	for _, x := range []struct {
		u               api.Usage
		now, more, half int
	}{
		{api.Usage{N: -1}, 10, 7, 10},
		{api.Usage{At: -1}, 10, 7, 10},
		{api.Usage{At: 11}, 10, 7, 10},
		{api.Usage{}, api.MaxTicks + 1, 7, 10},
		{api.Usage{At: api.MaxTicks + 1}, api.MaxTicks + 1, 7, 10},
		{api.Usage{}, -1, 7, 10},
		{api.Usage{}, 10, -1, 10},
		{api.Usage{}, 10, 7, 0},
		{api.Usage{}, 10, 7, -3},
		{api.Usage{}, 10, 7, api.MaxTicks + 1},
		{api.Usage{N: api.MinInt, At: api.MinInt}, api.MinInt, api.MinInt, api.MinInt},
		{api.Usage{N: api.MaxInt, At: api.MaxInt}, api.MaxInt, api.MaxInt, api.MaxInt},
	} {
		if u, e := decay.Charge(x.u, x.now, x.more, x.half); u != (api.Usage{}) || e != api.ErrArg {
			t.Error(x, u, e)
		}
	}
}

func TestUntil(t *testing.T) {
	for _, x := range []struct {
		n, half, want int
		e             api.Errno
	}{
		{1000, 10, 100, api.OK}, {0, 10, 0, api.OK}, {1, 10, 10, api.OK}, {2, 10, 20, api.OK}, {3, 1, 2, api.OK}, {4, 1, 3, api.OK},
		{api.MaxInt, 1 << 32, 63 << 32, api.OK}, {api.MaxInt, 1, 63, api.OK}, {1 << 62, 1, 63, api.OK}, {1<<62 - 1, 1, 62, api.OK},
		{-1, 10, 0, api.ErrArg}, {api.MinInt, 10, 0, api.ErrArg}, {5, 0, 0, api.ErrArg}, {5, -1, 0, api.ErrArg}, {5, 1<<32 + 1, 0, api.ErrArg},
	} {
		if n, e := decay.Until(x.n, x.half); n != x.want || e != x.e {
			t.Error(x, n, e)
		}
	}
}

func TestUntilIsTheFirstHalfLifeThatCountsNothing(t *testing.T) {
	for n := 1; n < 3000; n += 7 {
		ticks, e := decay.Until(n, 12)
		if e != api.OK {
			t.Fatal(n, e)
		}
		if left, _ := decay.After(n, ticks, 12); left != 0 {
			t.Error(n, ticks, left)
		}
		if left, _ := decay.After(n, ticks-12, 12); left == 0 {
			t.Error(n, "counts 0 one half-life before", ticks)
		}
	}
}
