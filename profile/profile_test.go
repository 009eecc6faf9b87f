package profile_test

import (
	"math/rand"
	"slices"
	"testing"

	"ganger/api"
	"ganger/profile"
)

type levels = []api.Level

// bad are lists that are no profiles.
func bad() []levels {
	return []levels{
		nil,
		{},
		{{At: -1, Free: 1}},
		{{At: 1, Free: -1}},
		{{At: api.MaxTime + 1, Free: 1}},
		{{At: 1, Free: api.MaxTime + 1}},
		{{At: 1, Free: 1}, {At: 1, Free: 2}},
		{{At: 2, Free: 1}, {At: 1, Free: 2}},
		{{At: 1, Free: 1}, {At: 2, Free: 1}},
		{{At: 1, Free: 1}, {At: 2, Free: 2}, {At: 3, Free: 2}},
		{{At: 1, Free: 1}, {At: 2, Free: 2}, {At: 3, Free: -2}},
		{{At: 1, Free: 1}, {At: 2, Free: 2}, {At: api.MaxTime + 1, Free: 3}},
		{{At: api.MinInt, Free: api.MinInt}},
		{{At: api.MaxInt, Free: api.MaxInt}},
	}
}

const last = 30 // the ticks of random profiles are 0 to last

// random makes a profile, and the same function tick by tick (-1 before the first level).
func random(r *rand.Rand) (levels, [last + 1]int) {
	p := levels{}
	f := [last + 1]int{}
	first := r.Intn(8)
	for t := range f {
		f[t] = -1
		if t >= first {
			f[t] = r.Intn(4)
			if t > first && r.Intn(3) > 0 {
				f[t] = f[t-1]
			}
			if t == first || f[t] != f[t-1] {
				p = append(p, api.Level{At: t, Free: f[t]})
			}
		}
	}
	return p, f
}

func value(f [last + 1]int, t int) int {
	if t < 0 {
		return -1
	}
	return f[min(t, last)]
}

func TestNewAndCheck(t *testing.T) {
	for _, x := range [][2]int{{10, 4}, {0, 0}, {api.MaxTime, api.MaxTime}} {
		if p, e := profile.New(x[0], x[1]); e != api.OK || !slices.Equal(p, levels{{At: x[0], Free: x[1]}}) {
			t.Error(x, p, e)
		}
	}
	for _, x := range [][2]int{{-1, 4}, {4, -1}, {api.MaxTime + 1, 4}, {4, api.MaxTime + 1}, {api.MinInt, 0}, {0, api.MaxInt}} {
		if p, e := profile.New(x[0], x[1]); e != api.ErrProfile || len(p) != 0 {
			t.Error(x, p, e)
		}
	}
	for _, p := range bad() {
		if e := profile.Check(p); e != api.ErrProfile {
			t.Error(p, e)
		}
	}
	for _, p := range []levels{{{At: 0, Free: 0}}, {{At: 0, Free: 1}, {At: 1, Free: 0}, {At: 5, Free: 1}}, {{At: 0, Free: api.MaxTime}, {At: api.MaxTime, Free: 0}}} {
		if e := profile.Check(p); e != api.OK {
			t.Error(p, e)
		}
	}
}

func TestWhatIsNoProfile(t *testing.T) {
	good := levels{{At: 0, Free: 3}}
	for _, p := range bad() {
		if profile.At(p, 2) != 0 || profile.Least(p, 2, 1) != 0 {
			t.Error(p, "At or Least")
		}
		if n, e := profile.Fit(p, -1, 0, -1); n != 0 || e != api.ErrProfile {
			t.Error(p, n, e)
		}
		if q, e := profile.Change(p, -1, 0, api.MaxInt); len(q) != 0 || e != api.ErrProfile {
			t.Error(p, q, e)
		}
		if q, e := profile.Trim(p, -1); len(q) != 0 || e != api.ErrProfile {
			t.Error(p, q, e)
		}
		if q, e := profile.Meet(p, good); len(q) != 0 || e != api.ErrProfile {
			t.Error(p, q, e)
		}
		if q, e := profile.Meet(good, p); len(q) != 0 || e != api.ErrProfile {
			t.Error(p, q, e)
		}
	}
}

func TestExample(t *testing.T) {
	p, _ := profile.New(10, 4)
	p, e := profile.Change(p, 12, 5, -3)
	if e != api.OK || !slices.Equal(p, levels{{At: 10, Free: 4}, {At: 12, Free: 1}, {At: 17, Free: 4}}) {
		t.Fatal(p, e)
	}
	for _, x := range []struct {
		from, length, n, want int
		e                     api.Errno
	}{{10, 3, 2, 17, api.OK}, {10, 2, 2, 10, api.OK}, {10, 3, 5, 0, api.ErrFull}, {0, 2, 2, 10, api.OK}, {11, 2, 2, 17, api.OK}, {11, 1, 2, 11, api.OK}, {12, 5, 1, 12, api.OK}, {500, 5, 4, 500, api.OK}, {10, api.MaxTime, 4, 17, api.OK}, {10, api.MaxTime, 0, 10, api.OK}} {
		if n, e := profile.Fit(p, x.from, x.length, x.n); n != x.want || e != x.e {
			t.Error(x, n, e)
		}
	}
}

func TestAtAndLeast(t *testing.T) {
	r := rand.New(rand.NewSource(7))
	for range 100 {
		p, f := random(r)
		for tick := -2; tick < last+5; tick++ {
			if got, want := profile.At(p, tick), max(0, value(f, tick)); got != want {
				t.Fatal(p, tick, got, want)
			}
			for _, length := range []int{-1, 0, 1, 2, 3, 7, 40, api.MaxInt} {
				want := api.MaxInt
				for i := tick; i < tick+min(length, 99); i++ {
					want = min(want, max(0, value(f, i)))
				}
				if length < 1 {
					want = 0
				}
				if got := profile.Least(p, tick, length); got != want {
					t.Fatal(p, tick, length, got, want)
				}
			}
		}
	}
}

func TestTheEndOfTime(t *testing.T) {
	p := levels{{At: 3, Free: 5}, {At: api.MaxTime - 1, Free: 2}, {At: api.MaxTime, Free: 7}}
	for _, x := range [][2]int{{api.MinInt, 0}, {2, 0}, {3, 5}, {api.MaxTime - 2, 5}, {api.MaxTime - 1, 2}, {api.MaxTime, 7}, {api.MaxTime + 1, 7}, {api.MaxInt, 7}} {
		if got := profile.At(p, x[0]); got != x[1] {
			t.Error(x, got)
		}
	}
	for _, x := range [][3]int{{api.MaxInt, api.MaxInt, 7}, {api.MaxTime + 5, 1, 7}, {3, api.MaxInt, 2}, {3, api.MaxTime - 4, 5}, {3, api.MaxTime - 3, 2}, {2, 5, 0}, {-5, api.MaxInt, 0}, {api.MinInt, api.MinInt, 0}, {api.MaxTime, 0, 0}} {
		if got := profile.Least(p, x[0], x[1]); got != x[2] {
			t.Error(x, got)
		}
	}
	if n, e := profile.Fit(p, 3, api.MaxTime, 6); n != api.MaxTime || e != api.OK {
		t.Error(n, e)
	}
}

func TestFitReturnsTheSmallestTick(t *testing.T) {
	r := rand.New(rand.NewSource(8))
	for range 400 {
		p, f := random(r)
		for range 20 {
			from, length, n := r.Intn(last+4), 1+r.Intn(9), r.Intn(5)
			want, wantE := 0, api.ErrFull
			for tick := last + 5; tick >= from; tick-- {
				fits := value(f, tick) >= 0
				for i := tick; i < tick+length; i++ {
					fits = fits && value(f, i) >= n
				}
				if fits {
					want, wantE = tick, api.OK
				}
			}
			if got, e := profile.Fit(p, from, length, n); got != want || e != wantE {
				t.Fatal(p, from, length, n, got, e, want)
			}
		}
	}
}

func TestFitRefuses(t *testing.T) {
	p := levels{{At: 3, Free: 5}}
	for _, x := range [][3]int{{0, 0, 1}, {0, -1, 1}, {0, api.MaxTime + 1, 1}, {-1, 1, 1}, {api.MaxTime + 1, 1, 1}, {0, 1, -1}, {0, 0, 6}} {
		if n, e := profile.Fit(p, x[0], x[1], x[2]); n != 0 || e != api.ErrArg {
			t.Error(x, n, e)
		}
	}
	if n, e := profile.Fit(p, api.MaxTime, api.MaxTime, 5); n != api.MaxTime || e != api.OK {
		t.Error(n, e)
	}
	for _, n := range []int{6, api.MaxInt} {
		if n, e := profile.Fit(p, 0, 1, n); n != 0 || e != api.ErrFull {
			t.Error(n, e)
		}
	}
}

// build makes the profile of a function.
func build(f [last + 1]int) levels {
	p := levels{}
	for t, free := range f {
		if free >= 0 && (len(p) == 0 || p[len(p)-1].Free != free) {
			p = append(p, api.Level{At: t, Free: free})
		}
	}
	return p
}

func TestChange(t *testing.T) {
	r := rand.New(rand.NewSource(9))
	for range 3000 {
		p, f := random(r)
		kept := slices.Clone(p)
		from := p[0].At + r.Intn(last-p[0].At)
		length, n := 1+r.Intn(last-from), r.Intn(7)-3
		g, full := f, false
		for i := from; i < from+length; i++ {
			g[i] += n
			full = full || g[i] < 0
		}
		got, e := profile.Change(p, from, length, n)
		if full {
			if e != api.ErrFull || len(got) != 0 {
				t.Fatal(p, from, length, n, got, e)
			}
			continue
		}
		if e != api.OK || !slices.Equal(got, build(g)) {
			t.Fatal(p, from, length, n, got, e, build(g))
		}
		back, e := profile.Change(got, from, length, -n)
		if e != api.OK || !slices.Equal(back, p) {
			t.Fatal("taking and giving back does not restore", p, back, e)
		}
		got[0].Free = 77
		if !slices.Equal(p, kept) {
			t.Fatal("Change changed its argument, or shares it")
		}
	}
}

func TestChangeRefuses(t *testing.T) {
	p := levels{{At: 3, Free: 5}, {At: 9, Free: 2}}
	for _, x := range []struct {
		from, length, n int
		e               api.Errno
	}{
		{2, 1, 1, api.ErrArg}, {-1, 1, 1, api.ErrArg}, {api.MaxTime + 1, 1, 1, api.ErrArg}, {api.MaxTime, 1, 1, api.ErrArg},
		{3, 0, 1, api.ErrArg}, {3, -1, 1, api.ErrArg}, {3, api.MaxTime + 1, 1, api.ErrArg}, {3, api.MaxTime, 1, api.ErrArg}, {3, api.MaxTime - 2, 1, api.ErrArg},
		{api.MaxInt, api.MaxInt, 1, api.ErrArg}, {3, api.MaxInt, 1, api.ErrArg}, {3, 1, api.MaxTime + 1, api.ErrArg}, {3, 1, -api.MaxTime - 1, api.ErrArg},
		{3, 1, api.MinInt, api.ErrArg}, {3, 1, api.MaxInt, api.ErrArg}, {3, 0, -9, api.ErrArg},
		{3, 1, -6, api.ErrFull}, {3, 1, -api.MaxTime, api.ErrFull}, {3, 1, api.MaxTime, api.ErrFull}, {3, 1, api.MaxTime - 4, api.ErrFull}, {8, 2, -3, api.ErrFull}, {9, 1, api.MaxTime - 1, api.ErrFull},
	} {
		if q, e := profile.Change(p, x.from, x.length, x.n); len(q) != 0 || e != x.e {
			t.Error(x, q, e)
		}
	}
	for _, x := range []struct {
		from, length, n int
		want            levels
	}{
		{3, 1, -5, levels{{At: 3, Free: 0}, {At: 4, Free: 5}, {At: 9, Free: 2}}},
		{9, 1, -2, levels{{At: 3, Free: 5}, {At: 9, Free: 0}, {At: 10, Free: 2}}},
		{3, 1, api.MaxTime - 5, levels{{At: 3, Free: api.MaxTime}, {At: 4, Free: 5}, {At: 9, Free: 2}}},
		{3, api.MaxTime - 3, 1, levels{{At: 3, Free: 6}, {At: 9, Free: 3}, {At: api.MaxTime, Free: 2}}},
		{api.MaxTime - 1, 1, 1, levels{{At: 3, Free: 5}, {At: 9, Free: 2}, {At: api.MaxTime - 1, Free: 3}, {At: api.MaxTime, Free: 2}}},
		{3, 6, -3, levels{{At: 3, Free: 2}}},
		{9, 4, 3, levels{{At: 3, Free: 5}, {At: 13, Free: 2}}},
		{5, 2, 0, p},
	} {
		if q, e := profile.Change(p, x.from, x.length, x.n); e != api.OK || !slices.Equal(q, x.want) {
			t.Error(x, q, e)
		}
	}
}

func TestTrim(t *testing.T) {
	p := levels{{At: 3, Free: 5}, {At: 9, Free: 2}, {At: 12, Free: 4}}
	for _, x := range []struct {
		now  int
		want levels
		e    api.Errno
	}{
		{3, p, api.OK},
		{4, levels{{At: 4, Free: 5}, {At: 9, Free: 2}, {At: 12, Free: 4}}, api.OK},
		{8, levels{{At: 8, Free: 5}, {At: 9, Free: 2}, {At: 12, Free: 4}}, api.OK},
		{9, levels{{At: 9, Free: 2}, {At: 12, Free: 4}}, api.OK},
		{12, levels{{At: 12, Free: 4}}, api.OK},
		{api.MaxTime, levels{{At: api.MaxTime, Free: 4}}, api.OK},
		{2, nil, api.ErrArg}, {-1, nil, api.ErrArg}, {api.MaxTime + 1, nil, api.ErrArg}, {api.MinInt, nil, api.ErrArg},
	} {
		q, e := profile.Trim(p, x.now)
		if e != x.e || !slices.Equal(q, x.want) {
			t.Error(x, q, e)
		}
		if len(q) > 0 {
			q[0] = api.Level{At: 77, Free: 77}
			q[len(q)-1].Free = 78
		}
	}
	if !slices.Equal(p, levels{{At: 3, Free: 5}, {At: 9, Free: 2}, {At: 12, Free: 4}}) {
		t.Error("Trim changed its argument, or shares it:", p)
	}
}

func TestMeet(t *testing.T) {
	r := rand.New(rand.NewSource(10))
	for range 2000 {
		a, f := random(r)
		b, g := random(r)
		keptA, keptB := slices.Clone(a), slices.Clone(b)
		h := [last + 1]int{}
		for i := range h {
			h[i] = min(f[i], g[i])
		}
		got, e := profile.Meet(a, b)
		if e != api.OK || !slices.Equal(got, build(h)) || profile.Check(got) != api.OK {
			t.Fatal(a, b, got, e)
		}
		for i := range got {
			got[i] = api.Level{At: 77, Free: 77}
		}
		if !slices.Equal(a, keptA) || !slices.Equal(b, keptB) {
			t.Fatal("Meet changed an argument, or shares it")
		}
	}
}

func TestEveryFunctionHasOneProfile(t *testing.T) {
	r := rand.New(rand.NewSource(11))
	for range 300 {
		a, f := random(r)
		p, e := profile.New(a[0].At, a[0].Free)
		if e != api.OK {
			t.Fatal(e)
		}
		for _, level := range a[1:] {
			free := profile.At(p, level.At)
			if p, e = profile.Change(p, level.At, api.MaxTime-level.At, level.Free-free); e != api.OK {
				t.Fatal(p, e)
			}
		}
		p = slices.DeleteFunc(p, func(l api.Level) bool { return l.At == api.MaxTime })
		if !slices.Equal(p, build(f)) {
			t.Fatal(p, build(f))
		}
	}
}
