package depend_test

import (
	"math/rand"
	"reflect"
	"slices"
	"strconv"
	"strings"
	"testing"

	"ganger/api"
	"ganger/depend"
)

func need(kind int, jobs ...uint32) api.Need {
	return api.Need{Kind: kind, Jobs: jobs}
}

func all(l ...api.Need) api.Depend {
	return api.Depend{L: l}
}

func either(l ...api.Need) api.Depend {
	return api.Depend{Any: true, L: l}
}

func many(n int) []uint32 {
	l := []uint32{}
	for i := range n {
		l = append(l, uint32(i+1))
	}
	return l
}

// equal takes nil and empty lists for the same.
func equal(a, b api.Depend) bool {
	return a.Any == b.Any && slices.EqualFunc(a.L, b.L, func(x, y api.Need) bool { return x.Kind == y.Kind && slices.Equal(x.Jobs, y.Jobs) })
}

func bad() []api.Depend {
	return []api.Depend{
		either(),
		either(need(api.NeedAfter, 1)),
		all(need(0)), all(need(0, 1)), all(need(6, 1)), all(need(-1, 1)), all(need(api.MaxInt)), all(need(api.MinInt, 1)),
		all(need(api.NeedAfter)), all(need(api.NeedOK)), all(need(api.NeedNotOK)), all(need(api.NeedAny)),
		all(need(api.NeedSingleton, 1)), all(need(api.NeedSingleton, 0)),
		all(need(api.NeedAfter, 0)), all(need(api.NeedOK, 1, 0)), all(need(api.NeedAfter, 1), need(api.NeedAny, 2, 0, 3)),
		all(need(api.NeedAfter, many(21)...)),
		all(slices.Repeat([]api.Need{need(api.NeedAfter, 1)}, 21)...),
	}
}

func TestCheck(t *testing.T) {
	for _, d := range bad() {
		if e := depend.Check(d); e != api.ErrArg {
			t.Error(d, e)
		}
		if text, e := depend.Print(d); text != "" || e != api.ErrArg {
			t.Error(d, text, e)
		}
		if say := depend.Say(d, []api.Where{{Job: 1, How: api.HowOK}}, true); say != 0 {
			t.Error(d, say)
		}
		if l := depend.Jobs(d); len(l) != 0 {
			t.Error(d, l)
		}
	}
	for _, d := range []api.Depend{
		{}, all(need(api.NeedSingleton)), all(need(api.NeedAfter, many(20)...)), all(need(api.NeedAny, 7, 7)), all(need(api.NeedOK, 1<<32-1)),
		either(need(api.NeedAfter, 1), need(api.NeedAfter, 1)), all(slices.Repeat([]api.Need{need(api.NeedSingleton)}, 20)...), {L: []api.Need{{Kind: api.NeedSingleton, Jobs: []uint32{}}}},
	} {
		if e := depend.Check(d); e != api.OK {
			t.Error(d, e)
		}
	}
}

func TestPrintAndParse(t *testing.T) {
	for _, x := range []struct {
		d    api.Depend
		text string
	}{
		{api.Depend{}, ""},
		{all(need(api.NeedOK, 12, 13), need(api.NeedSingleton)), "afterok:12:13,singleton"},
		{either(need(api.NeedAfter, 1), need(api.NeedOK, 2)), "after:1?afterok:2"},
		{all(need(api.NeedNotOK, 1<<32-1), need(api.NeedAny, 2, 1, 2)), "afternotok:4294967295,afterany:2:1:2"},
		{all(need(api.NeedSingleton)), "singleton"},
		{either(need(api.NeedSingleton), need(api.NeedSingleton), need(api.NeedAfter, 10)), "singleton?singleton?after:10"},
		{all(need(api.NeedAfter, 5)), "after:5"},
	} {
		if text, e := depend.Print(x.d); text != x.text || e != api.OK {
			t.Error(x, text, e)
		}
		if d, e := depend.Parse(x.text); !equal(d, x.d) || e != api.OK {
			t.Error(x, d, e)
		}
	}
}

func TestParseRefuses(t *testing.T) {
	jobs := func(n int) string { return "after" + strings.Repeat(":1", n) }
	needs := func(n int) string { return "singleton" + strings.Repeat(",singleton", n-1) }
	for _, x := range []struct {
		text string
		e    api.Errno
	}{
		{"x", api.ErrText}, {"before:1", api.ErrText}, {"afte:1", api.ErrText}, {"afterOK:1", api.ErrText}, {"After:1", api.ErrText}, {"afterx:1", api.ErrText}, {":1", api.ErrText}, {":", api.ErrText},
		{"after", api.ErrText}, {"afterok", api.ErrText}, {"after:", api.ErrText}, {"after:1:", api.ErrText}, {"after::1", api.ErrText}, {"after1", api.ErrText}, {"after:x", api.ErrText}, {"after:-1", api.ErrText}, {"after:+1", api.ErrText},
		{"after: 1", api.ErrText}, {" after:1", api.ErrText}, {"after:1 ", api.ErrText}, {"after:1\n", api.ErrText}, {"after:１", api.ErrText}, {"after:1\x80", api.ErrText},
		{"after:01", api.ErrText}, {"after:00", api.ErrText}, {"after:4294967296", api.ErrText}, {"after:9999999999", api.ErrText}, {"after:42949672950", api.ErrText}, {"after:18446744073709551617", api.ErrText}, {"after:1:4294967296", api.ErrText},
		{"singleton:", api.ErrText}, {"singleton:1", api.ErrText}, {"singletons", api.ErrText},
		{"after:1,after:2?after:3", api.ErrText}, {"after:1?after:2,after:3", api.ErrText},
		{",", api.ErrText}, {"?", api.ErrText}, {"after:1,", api.ErrText}, {"after:1?", api.ErrText}, {",after:1", api.ErrText}, {"after:1,,after:2", api.ErrText}, {"after:1??after:2", api.ErrText}, {"after:1, after:2", api.ErrText},
		{"after:0", api.ErrArg}, {"afterok:1:0", api.ErrArg}, {"after:1,after:0", api.ErrArg}, {"after:0?after:1", api.ErrArg},
		{jobs(20), api.OK}, {jobs(21), api.ErrArg}, {needs(20), api.OK}, {needs(21), api.ErrArg},
		{"after:0,x", api.ErrText}, {"after:0:01", api.ErrText}, {jobs(21) + ":", api.ErrText}, {needs(21) + ",", api.ErrText}, {"after:0,after:1?after:2", api.ErrText},
	} {
		d, e := depend.Parse(x.text)
		if e != x.e || e != api.OK && !equal(d, api.Depend{}) {
			t.Errorf("Parse(%q) is %v, %d", x.text, d, e)
		}
	}
}

func TestWhatIsPrintedIsReadBack(t *testing.T) {
	r := rand.New(rand.NewSource(15))
	for range 2000 {
		d := random(r, 1<<32-1)
		kept := clone(d)
		text, e := depend.Print(d)
		if e != api.OK || !equal(d, kept) {
			t.Fatal(d, text, e)
		}
		back, e := depend.Parse(text)
		if e != api.OK || !equal(back, d) {
			t.Fatal(d, text, back, e)
		}
		if again, _ := depend.Print(back); again != text {
			t.Fatal(text, again)
		}
	}
}

// random makes a dependency on jobs 1 to most.
func random(r *rand.Rand, most int) api.Depend {
	d := api.Depend{Any: r.Intn(2) == 0}
	for range 2 + r.Intn(3) {
		n := need(1 + r.Intn(5))
		for n.Kind != api.NeedSingleton && (len(n.Jobs) == 0 || r.Intn(2) == 0 && len(n.Jobs) < 20) {
			n.Jobs = append(n.Jobs, uint32(1+r.Intn(most)))
		}
		d.L = append(d.L, n)
	}
	return d
}

func clone(d api.Depend) api.Depend {
	d.L = slices.Clone(d.L)
	for i := range d.L {
		d.L[i].Jobs = slices.Clone(d.L[i].Jobs)
	}
	return d
}

func TestSayOfEachKind(t *testing.T) {
	const w, r, n = api.SayWait, api.SayReady, api.SayNever
	kinds := [][6]int{ // none, waiting, running, ended well, ended otherwise
		api.NeedAfter: {n, w, r, r, r},
		api.NeedOK:    {n, w, w, r, n},
		api.NeedNotOK: {n, w, w, n, r},
		api.NeedAny:   {n, w, w, r, r},
	}
	for kind := api.NeedAfter; kind <= api.NeedAny; kind++ {
		for how, want := range kinds[kind][:5] {
			d := all(need(kind, 3))
			for _, alone := range []bool{true, false} {
				if say := depend.Say(d, []api.Where{{Job: 2, How: api.HowOK}, {Job: 3, How: how}, {Job: 3, How: api.HowRunning}}, alone); say != want {
					t.Error(kind, how, say, want)
				}
			}
		}
		for _, l := range [][]api.Where{nil, {{Job: 4, How: api.HowOK}}, {{Job: 3, How: -1}}, {{Job: 3, How: 5}, {Job: 3, How: api.HowOK}}, {{Job: 3, How: api.MaxInt}}, {{Job: 3, How: api.MinInt}}} {
			if say := depend.Say(all(need(kind, 3)), l, true); say != n {
				t.Error(kind, l, say)
			}
		}
	}
	for _, d := range []api.Depend{all(need(api.NeedSingleton)), either(need(api.NeedSingleton), need(api.NeedSingleton))} {
		if depend.Say(d, nil, true) != r || depend.Say(d, nil, false) != w {
			t.Error(d)
		}
	}
	if depend.Say(api.Depend{}, nil, false) != r {
		t.Error("nothing is needed")
	}
}

func TestSayExamples(t *testing.T) {
	where := func(hows ...int) []api.Where {
		l := []api.Where{}
		for i, how := range hows {
			l = append(l, api.Where{Job: uint32(i + 1), How: how})
		}
		return l
	}
	const waiting, running, well, badly = api.HowWaiting, api.HowRunning, api.HowOK, api.HowBad
	for _, x := range []struct {
		text  string
		l     []api.Where
		alone bool
		say   int
	}{
		{"afterok:1:2,singleton", where(well, running), true, api.SayWait},
		{"afterok:1:2,singleton", where(well, badly), true, api.SayNever},
		{"afterok:1:2,singleton", where(well, well), false, api.SayWait},
		{"afterok:1:2,singleton", where(well, well), true, api.SayReady},
		{"afterok:1:2", where(waiting, badly), true, api.SayNever},
		{"afterok:1:2", where(badly, waiting), true, api.SayNever},
		{"afterok:1,afterok:2", where(waiting, badly), true, api.SayNever},
		{"after:1?afterok:2", where(running), true, api.SayReady},
		{"after:1?afterok:2", where(waiting), true, api.SayWait},
		{"after:9?afterok:1", where(waiting), true, api.SayWait},
		{"after:9?afterok:1", where(well), true, api.SayReady},
		{"after:9?afterok:1", where(badly), true, api.SayNever},
		{"after:9?singleton", nil, false, api.SayWait},
		{"after:9?singleton", nil, true, api.SayReady},
		{"afterok:1:2?afterok:3", where(well, waiting, badly), true, api.SayWait},
		{"afterok:1:9?afterok:3", where(waiting, well, well), true, api.SayReady},
	} {
		d, e := depend.Parse(x.text)
		if say := depend.Say(d, x.l, x.alone); e != api.OK || say != x.say {
			t.Error(x, say, e)
		}
	}
}

// sayLike says it as the chapter tells it, need by need.
func sayLike(d api.Depend, hows map[uint32]int, alone bool) int {
	met, waits, never := 0, 0, 0
	for _, n := range d.L {
		jobs := [4]int{}
		for _, job := range n.Jobs {
			how := hows[job]
			ended := how == api.HowOK || how == api.HowBad
			switch {
			case how == api.HowNone || n.Kind == api.NeedOK && how == api.HowBad || n.Kind == api.NeedNotOK && how == api.HowOK:
				jobs[api.SayNever]++
			case ended || n.Kind == api.NeedAfter && how == api.HowRunning:
				jobs[api.SayReady]++
			default:
				jobs[api.SayWait]++
			}
		}
		switch {
		case jobs[api.SayNever] > 0:
			never++
		case jobs[api.SayWait] > 0 || n.Kind == api.NeedSingleton && !alone:
			waits++
		default:
			met++
		}
	}
	switch {
	case d.Any && met > 0 || !d.Any && never+waits == 0:
		return api.SayReady
	case d.Any && waits == 0 || !d.Any && never > 0:
		return api.SayNever
	}
	return api.SayWait
}

func TestSayLikeTheChapter(t *testing.T) {
	r := rand.New(rand.NewSource(16))
	for range 20000 {
		d := random(r, 5)
		hows := map[uint32]int{}
		l := []api.Where{}
		for range r.Intn(12) {
			where := api.Where{Job: uint32(r.Intn(6)), How: r.Intn(7) - 1}
			l = append(l, where)
			if _, ok := hows[where.Job]; !ok {
				hows[where.Job] = where.How
				if where.How < 0 || where.How > 4 {
					hows[where.Job] = api.HowNone
				}
			}
		}
		kept := slices.Clone(l)
		alone := r.Intn(2) == 0
		if say := depend.Say(d, l, alone); say != sayLike(d, hows, alone) {
			t.Fatal(d, l, alone, say)
		}
		if !slices.Equal(l, kept) {
			t.Fatal("Say changed its argument")
		}
	}
}

func TestWhatIsReadyStaysSo(t *testing.T) {
	r := rand.New(rand.NewSource(17))
	for range 3000 {
		d := random(r, 4)
		hows := []api.Where{{Job: 1, How: 1}, {Job: 2, How: 1}, {Job: 3, How: 1}}
		said := depend.Say(d, hows, true)
		for range 8 {
			if w := &hows[r.Intn(3)]; w.How < api.HowOK {
				w.How += 1 + r.Intn(w.How)
			}
			say := depend.Say(d, hows, true)
			if said != api.SayWait && say != said {
				t.Fatal(d, hows, said, say)
			}
			said = say
		}
	}
}

func TestJobs(t *testing.T) {
	for _, x := range []struct {
		text string
		want []uint32
	}{
		{"", nil}, {"singleton", nil}, {"after:9:1:9,singleton,afterok:4:1", []uint32{1, 4, 9}}, {"after:4294967295?after:7", []uint32{7, 4294967295}},
	} {
		d, _ := depend.Parse(x.text)
		kept := clone(d)
		got := depend.Jobs(d)
		if !slices.Equal(got, x.want) {
			t.Error(x, got)
		}
		for i := range got {
			got[i] = 77
		}
		if !reflect.DeepEqual(d, kept) {
			t.Error("Jobs changed its argument, or shares it:", d)
		}
	}
	one := all(need(api.NeedAfter, 5))
	depend.Jobs(one)[0] = 6
	if one.L[0].Jobs[0] != 5 {
		t.Error("Jobs shares its argument")
	}
}

func TestNumbersOfAllLengths(t *testing.T) {
	for n := uint64(1); n < 1<<40; n = n*3 + 1 {
		text := "after:" + strconv.FormatUint(n, 10)
		d, e := depend.Parse(text)
		if n < 1<<32 && (e != api.OK || d.L[0].Jobs[0] != uint32(n)) || n >= 1<<32 && e != api.ErrText {
			t.Error(text, d, e)
		}
	}
}
