package prio_test

import (
	"math/rand"
	"slices"
	"testing"

	"ganger/api"
	"ganger/prio"
)

func TestAge(t *testing.T) {
	for _, x := range [][3]int{
		{0, api.MaxAge, 65536}, {0, api.MaxAge - 1, 65535}, {0, api.MaxAge + 1, 65536}, {0, api.MaxInt, 65536}, {5, 5, 0}, {6, 5, 0}, {5, 6, 0}, {0, 16, 1}, {0, 15, 0}, {0, 31, 1}, {100, 132, 2},
		{api.MaxAge, 2 * api.MaxAge, 65536}, {api.MaxAge, api.MaxAge + api.MaxAge/2, 32768}, {-1, 1 << 20, 0}, {-1, 0, 0}, {api.MinInt, api.MaxInt, 0}, {0, -1, 0}, {-5, -1, 0}, {0, api.MinInt, 0}, {api.MaxInt, api.MaxInt, 0}, {api.MaxInt - 16, api.MaxInt, 1},
	} {
		if n := prio.Age(x[0], x[1]); n != x[2] {
			t.Error("Age", x, n)
		}
	}
}

func TestSize(t *testing.T) {
	for _, x := range [][3]int{
		{1, 1, 65536}, {1, 2, 32768}, {1, 3, 21845}, {2, 3, 43690}, {3, 3, 65536}, {4, 3, 0}, {0, 3, 0}, {-1, 3, 0}, {1, 0, 0}, {1, -1, 0}, {0, 0, 0}, {-5, -3, 0}, {1, 65537, 0}, {1, 65536, 1},
		{api.MaxInt, api.MaxInt, 65536}, {api.MaxInt / 2, api.MaxInt, 32767}, {1, api.MaxInt, 0}, {api.MaxInt, api.MaxInt - 1, 0}, {api.MinInt, api.MaxInt, 0}, {1 << 60, 1 << 61, 32768},
	} {
		if n := prio.Size(x[0], x[1]); n != x[2] {
			t.Error("Size", x, n)
		}
	}
}

func TestOf(t *testing.T) {
	for _, x := range [][3]int{
		{0, 1, 0}, {1, 1, 65536}, {2, 1, 65536}, {1, 2, 32768}, {2, 3, 43690}, {-1, 3, 0}, {1, 0, 0}, {1, -1, 0}, {0, 0, 0}, {-1, -1, 0}, {5, 4, 65536}, {4, 4, 65536}, {3, 4, 49152},
		{api.MaxInt, 1, 65536}, {api.MaxInt, api.MaxInt, 65536}, {api.MaxInt - 1, api.MaxInt, 65535}, {api.MaxInt / 2, api.MaxInt, 32767}, {api.MinInt, api.MaxInt, 0}, {api.MaxInt, api.MinInt, 0},
	} {
		if n := prio.Of(x[0], x[1]); n != x[2] {
			t.Error("Of", x, n)
		}
	}
}

func TestPrioOfEachPart(t *testing.T) {
	plain := api.Asked{ID: 1}
	for _, x := range []struct {
		w        api.Weights
		a        api.Asked
		now, all int
		want     int
	}{
		{api.Weights{Fair: 1000, Age: 100}, api.Asked{ID: 1, Factor: 32768}, api.MaxAge, 1, 600},
		{api.Weights{Fair: 1000, Age: 100}, api.Asked{ID: 1, Factor: 32768, Nice: 7}, api.MaxAge, 1, 593},
		{api.Weights{Fair: 3}, api.Asked{ID: 1, Factor: 65535}, 0, 1, 2},
		{api.Weights{Fair: 3}, api.Asked{ID: 1, Factor: 65536}, 0, 1, 3},
		{api.Weights{Age: 100}, api.Asked{ID: 1, Since: 10}, 10 + api.MaxAge/2, 1, 50},
		{api.Weights{Size: 100}, api.Asked{ID: 1, Size: 3}, 0, 4, 75},
		{api.Weights{Size: 100}, api.Asked{ID: 1, Size: 5}, 0, 4, 0},
		{api.Weights{Size: 100}, api.Asked{ID: 1, Size: -5}, 0, 4, 0},
		{api.Weights{QOS: 100}, api.Asked{ID: 1, QOS: api.MaxWeight / 4}, 0, 1, 25},
		{api.Weights{QOS: 100}, api.Asked{ID: 1, QOS: api.MaxInt}, 0, 1, 100},
		{api.Weights{QOS: 100}, api.Asked{ID: 1, QOS: -1}, 0, 1, 0},
		{api.Weights{Part: 100}, api.Asked{ID: 1, Part: api.MaxWeight / 2}, 0, 1, 50},
		{api.Weights{Part: 100}, api.Asked{ID: 1, Part: api.MaxWeight + 1}, 0, 1, 100},
		{api.Weights{}, api.Asked{ID: 1, Nice: 10000}, 0, 1, -10000},
		{api.Weights{}, api.Asked{ID: 1, Nice: -10000}, 0, 1, 10000},
		{api.Weights{Fair: 1, Age: 2, Size: 4, QOS: 8, Part: 16}, plain, 0, 1, 0},
		{api.Weights{Fair: 1, Age: 2, Size: 4, QOS: 8, Part: 16}, api.Asked{ID: 1, Factor: 65536, Size: 1 << 20, QOS: 1 << 20, Part: 1 << 20}, api.MaxTime, 1 << 20, 31},
		{api.Weights{Fair: 1, Age: 1, Size: 1, QOS: 1, Part: 1}, api.Asked{ID: 1, Factor: 65535, Size: 2, QOS: 1<<20 - 1, Part: 1<<20 - 1}, api.MaxAge - 1, 3, 0},
		{api.Weights{Fair: api.MaxWeight, Age: api.MaxWeight, Size: api.MaxWeight, QOS: api.MaxWeight, Part: api.MaxWeight}, api.Asked{ID: 1<<32 - 1, Factor: 65536, Size: 1, QOS: 1 << 20, Part: 1 << 20}, api.MaxTime, 1, 5 * api.MaxWeight},
	} {
		if n, e := prio.Prio(x.w, x.a, x.now, x.all); n != x.want || e != api.OK {
			t.Error(x, n, e)
		}
	}
}

// wrong calls f with arguments of Prio of which one may not be.
func wrong(f func(w api.Weights, a api.Asked, now, all int)) {
	w, a := api.Weights{Fair: 1, Age: 1, Size: 1, QOS: 1, Part: 1}, api.Asked{ID: 1, Since: 2, Factor: 3}
	for _, n := range []int{-1, api.MaxWeight + 1, api.MinInt, api.MaxInt} {
		for i := range 5 {
			x := w
			*[]*int{&x.Fair, &x.Age, &x.Size, &x.QOS, &x.Part}[i] = n
			f(x, a, 5, 5)
		}
	}
	for _, x := range []api.Asked{{}, {ID: 1, Factor: -1}, {ID: 1, Factor: 65537}, {ID: 1, Factor: api.MaxInt}, {ID: 1, Nice: 10001}, {ID: 1, Nice: -10001}, {ID: 1, Nice: api.MinInt}, {ID: 1, Since: -1}, {ID: 1, Since: api.MinInt}, {ID: 0, Since: 3, Size: 4}} {
		f(w, x, 5, 5)
	}
	for _, x := range [][2]int{{-1, 5}, {api.MaxTime + 1, 5}, {api.MaxInt, 5}, {api.MinInt, 5}, {5, 0}, {5, -1}, {5, 1<<20 + 1}, {5, api.MaxInt}, {5, api.MinInt}} {
		f(w, a, x[0], x[1])
	}
}

func TestPrioRefuses(t *testing.T) {
	wrong(func(w api.Weights, a api.Asked, now, all int) {
		if n, e := prio.Prio(w, a, now, all); n != 0 || e != api.ErrArg {
			t.Error("Prio", w, a, now, all, n, e)
		}
		good := api.Asked{ID: 9}
		for _, l := range [][]api.Asked{{a}, {a, a}, {a, good, good}} {
			if keys, e := prio.Keys(w, l, now, all); len(keys) != 0 || e != api.ErrArg {
				t.Error("Keys", w, l, now, all, keys, e)
			}
			if id, e := prio.First(w, l, now, all); id != 0 || e != api.ErrArg {
				t.Error("First", w, l, now, all, id, e)
			}
		}
	})
	for _, a := range []api.Asked{{ID: 1, Since: api.MaxInt}, {ID: 1, Size: api.MinInt, QOS: api.MinInt, Part: api.MinInt}} {
		if n, e := prio.Prio(api.Weights{Size: 5, QOS: 5, Part: 5}, a, api.MaxTime, 1<<20); n != 0 || e != api.OK {
			t.Error(a, n, e)
		}
	}
}

func TestEachPartIsAtMostItsWeight(t *testing.T) {
	r := rand.New(rand.NewSource(22))
	number := func() int {
		return []int{r.Intn(10), r.Intn(api.MaxWeight + 1), r.Int(), -r.Int()}[r.Intn(4)]
	}
	for range 20000 {
		w := api.Weights{}
		fields := []*int{&w.Fair, &w.Age, &w.Size, &w.QOS, &w.Part}
		i := r.Intn(5)
		*fields[i] = r.Intn(api.MaxWeight + 1)
		a := api.Asked{ID: 1, Since: r.Intn(1 << 22), Size: number(), QOS: number(), Part: number(), Factor: r.Intn(65537)}
		n, e := prio.Prio(w, a, r.Intn(1<<22), 1+r.Intn(1<<20))
		if e != api.OK || n < 0 || n > *fields[i] {
			t.Fatal(w, a, n, e)
		}
	}
}

func TestKeys(t *testing.T) {
	w := api.Weights{Fair: 100, Age: 100}
	l := []api.Asked{{ID: 3, Since: 50, Factor: 65536}, {ID: 2, Since: 40, Factor: 65536}, {ID: 7, Since: 40, Factor: 65536}, {ID: 1, Since: 90, Factor: 65536, Nice: -5}, {ID: 9, Since: 1, Nice: 3}}
	kept := slices.Clone(l)
	keys, e := prio.Keys(w, l, 100, 4)
	want := []api.Key{{Prio: 105, Time: 90, ID: 1}, {Prio: 100, Time: 40, ID: 2}, {Prio: 100, Time: 40, ID: 7}, {Prio: 100, Time: 50, ID: 3}, {Prio: -3, Time: 1, ID: 9}}
	if e != api.OK || !slices.Equal(keys, want) || !slices.Equal(l, kept) {
		t.Error(keys, e)
	}
	if id, e := prio.First(w, l, 100, 4); id != 1 || e != api.OK {
		t.Error(id, e)
	}
	if id, e := prio.First(w, l[1:3], 100, 4); id != 2 || e != api.OK {
		t.Error(id, e)
	}
}

func TestKeysRefuse(t *testing.T) {
	w := api.Weights{}
	twice := []api.Asked{{ID: 3}, {ID: 4}, {ID: 3, Since: 7}}
	if keys, e := prio.Keys(w, twice, 100, 4); len(keys) != 0 || e != api.ErrTwice {
		t.Error(keys, e)
	}
	if id, e := prio.First(w, twice, 100, 4); id != 0 || e != api.ErrTwice {
		t.Error(id, e)
	}
	if keys, e := prio.Keys(w, append(twice, api.Asked{}), 100, 4); len(keys) != 0 || e != api.ErrArg {
		t.Error(keys, e)
	}
	if keys, e := prio.Keys(w, nil, 100, 4); len(keys) != 0 || e != api.OK {
		t.Error(keys, e)
	}
	if id, e := prio.First(w, nil, 100, 4); id != 0 || e != api.ErrNone {
		t.Error(id, e)
	}
}

func TestOneOrder(t *testing.T) {
	r := rand.New(rand.NewSource(23))
	w := api.Weights{Fair: 100000, Age: 100000, Size: 5, QOS: 5, Part: 5}
	for range 3000 {
		a := api.Asked{ID: 5, Since: 100 + r.Intn(2000000), Size: r.Intn(9), Nice: r.Intn(3), QOS: r.Intn(1 << 20), Part: r.Intn(1 << 20), Factor: r.Intn(65000)}
		older, poorer := a, a
		older.ID, poorer.ID = 6, 4
		older.Since -= 1 + r.Intn(100)
		poorer.Factor += 1 + r.Intn(500)
		for _, b := range []api.Asked{older, poorer} {
			keys, e := prio.Keys(w, []api.Asked{a, b}, 2000000, 8)
			if e != api.OK || keys[0].ID != b.ID {
				t.Fatal(a, b, keys, e)
			}
		}
	}
}
