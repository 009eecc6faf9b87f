package book_test

import (
	"math/rand"
	"slices"
	"strconv"
	"strings"
	"testing"

	"ganger/api"
	"ganger/book"
	"ganger/decay"
)

func charge() api.Charge {
	return api.Charge{ID: 7, Account: "ann", Workers: 8, Seconds: 120, How: api.JobDone, At: 5000}
}

// with returns the charge, changed.
func with(change func(c *api.Charge)) api.Charge {
	c := charge()
	change(&c)
	return c
}

func good() []api.Charge {
	return []api.Charge{
		charge(),
		with(func(c *api.Charge) { c.ID = 1 }),
		with(func(c *api.Charge) { c.ID = 1<<32 - 1 }),
		with(func(c *api.Charge) { c.Account = "é" }),
		with(func(c *api.Charge) { c.Workers = 1 }),
		with(func(c *api.Charge) { c.Workers = 1024 }),
		with(func(c *api.Charge) { c.Seconds = 0 }),
		with(func(c *api.Charge) { c.Seconds = api.MaxLimit }),
		with(func(c *api.Charge) { c.How = 0 }),
		with(func(c *api.Charge) { c.How = api.JobFailed }),
		with(func(c *api.Charge) { c.How = api.JobCancelled }),
		with(func(c *api.Charge) { c.How = api.JobLate }),
		with(func(c *api.Charge) { c.At = 0 }),
		with(func(c *api.Charge) { c.At = api.MaxTime }),
	}
}

func bad() []api.Charge {
	l := []api.Charge{
		{},
		with(func(c *api.Charge) { c.ID = 0 }),
		with(func(c *api.Charge) { c.Account = "" }),
		with(func(c *api.Charge) { c.Account = "a b" }),
		with(func(c *api.Charge) { c.Account = strings.Repeat("x", 33) }),
		with(func(c *api.Charge) { c.Workers = 0 }),
		with(func(c *api.Charge) { c.Workers = 1025 }),
		with(func(c *api.Charge) { c.Seconds = -1 }),
		with(func(c *api.Charge) { c.Seconds = api.MaxLimit + 1 }),
		with(func(c *api.Charge) { c.At = -1 }),
		with(func(c *api.Charge) { c.At = api.MaxTime + 1 }),
	}
	for _, how := range []int{-1, 1, 2, 3, 4, 9, 10, api.MaxInt, api.MinInt} {
		l = append(l, with(func(c *api.Charge) { c.How = how }))
	}
	return l
}

func TestCheck(t *testing.T) {
	for _, c := range good() {
		if e := book.Check([]api.Charge{c}); e != api.OK {
			t.Error(c, e)
		}
	}
	for _, c := range bad() {
		l := []api.Charge{with(func(c *api.Charge) { c.At = 0 }), c}
		wantBad(t, l)
		if text, e := book.Line(c); text != "" || e != api.ErrCharge {
			t.Error(c, text, e)
		}
	}
	if e := book.Check(nil); e != api.OK {
		t.Error(e)
	}
	at := func(ticks ...int) []api.Charge {
		l := []api.Charge{}
		for _, tick := range ticks {
			l = append(l, with(func(c *api.Charge) { c.At = tick }))
		}
		return l
	}
	wantBad(t, at(5, 4))
	wantBad(t, at(1, 2, 3, 2))
	if e := book.Check(at(0, 3, 3, 4)); e != api.OK {
		t.Error(e)
	}
	full := slices.Repeat([]api.Charge{charge()}, api.MaxCharges)
	if e := book.Check(full); e != api.OK {
		t.Error(e)
	}
	if seconds, n := book.Of(full, 7); seconds != 240000 || n != 2000 {
		t.Error(seconds, n)
	}
	wantBad(t, append(full, charge()))
}

// wantBad expects that nothing is told of what is no book.
func wantBad(t *testing.T, l []api.Charge) {
	t.Helper()
	if e := book.Check(l); e != api.ErrCharge {
		t.Error(l, e)
	}
	if n := book.Total(l, "ann"); n != 0 {
		t.Error(l, n)
	}
	for _, x := range [][2]int{{api.MaxTime, 5}, {-1, 0}} {
		if n, e := book.Usage(l, "ann", x[0], x[1]); n != 0 || e != api.ErrCharge {
			t.Error(l, n, e)
		}
	}
	if seconds, n := book.Of(l, 7); seconds != 0 || n != 0 {
		t.Error(l, seconds, n)
	}
}

func TestLine(t *testing.T) {
	for _, x := range []struct {
		c    api.Charge
		text string
	}{
		{charge(), "7 ann 8x120 done 5000"},
		{api.Charge{ID: 1, Account: "root", Workers: 2, Seconds: 5, How: api.JobLate, At: 5}, "1 root 2x5 late 5"},
		{api.Charge{ID: 1<<32 - 1, Account: "é", Workers: 1024, Seconds: api.MaxLimit, How: api.JobFailed, At: api.MaxTime}, "4294967295 é 1024x1073741824 failed 1099511627776"},
		{api.Charge{ID: 10, Account: "0", Workers: 1, Seconds: 0, How: 0, At: 0}, "10 0 1x0 requeued 0"},
		{api.Charge{ID: 10, Account: "x", Workers: 10, Seconds: 10, How: api.JobCancelled, At: 10}, "10 x 10x10 cancelled 10"},
	} {
		if text, e := book.Line(x.c); text != x.text || e != api.OK {
			t.Error(x, text, e)
		}
		if c, e := book.Parse(x.text); c != x.c || e != api.OK {
			t.Error(x, c, e)
		}
	}
}

func TestParseRefuses(t *testing.T) {
	for _, x := range []struct {
		line string
		e    api.Errno
	}{
		{"", api.ErrText}, {" ", api.ErrText}, {"7 ann 8x120 done", api.ErrText}, {"7 ann 8x120 done 5000 ", api.ErrText}, {"7 ann 8x120 done 5000\n", api.ErrText}, {" 7 ann 8x120 done 5000", api.ErrText}, {"7  ann 8x120 done 5000", api.ErrText}, {"7 ann 8x120 done 5000 1", api.ErrText}, {"7\tann 8x120 done 5000", api.ErrText},
		{"07 ann 8x120 done 5000", api.ErrText}, {"x ann 8x120 done 5000", api.ErrText}, {"-7 ann 8x120 done 5000", api.ErrText}, {"+7 ann 8x120 done 5000", api.ErrText}, {"4294967296 ann 8x120 done 5000", api.ErrText}, {"9999999999999 ann 8x120 done 5000", api.ErrText}, {"18446744073709551623 ann 8x120 done 5000", api.ErrText}, {" ann 8x120 done 5000", api.ErrText},
		{"7 a/b 8x120 done 5000", api.ErrText}, {"7 \xff 8x120 done 5000", api.ErrText}, {"7 " + strings.Repeat("x", 33) + " 8x120 done 5000", api.ErrText},
		{"7 ann 8 done 5000", api.ErrText}, {"7 ann 8x done 5000", api.ErrText}, {"7 ann x120 done 5000", api.ErrText}, {"7 ann 8x120x done 5000", api.ErrText}, {"7 ann 8xx120 done 5000", api.ErrText}, {"7 ann 08x120 done 5000", api.ErrText}, {"7 ann 8x0120 done 5000", api.ErrText}, {"7 ann 8X120 done 5000", api.ErrText}, {"7 ann 8x-1 done 5000", api.ErrText}, {"7 ann 8*120 done 5000", api.ErrText},
		{"7 ann 8x12345678901234 done 5000", api.ErrText}, {"7 ann 12345678901234x1 done 5000", api.ErrText}, {"7 ann 8x120 done 12345678901234", api.ErrText},
		{"7 ann 8x120 waiting 5000", api.ErrText}, {"7 ann 8x120 never 5000", api.ErrText}, {"7 ann 8x120 Done 5000", api.ErrText}, {"7 ann 8x120 5 5000", api.ErrText}, {"7 ann 8x120 running 5000", api.ErrText}, {"7 ann 8x120 don 5000", api.ErrText},
		{"7 ann 8x120 done 05", api.ErrText}, {"7 ann 8x120 done x", api.ErrText}, {"7 ann 8x120 done -5", api.ErrText}, {"7 ann 8x120 done １", api.ErrText},
		{"0 ann 8x120 done 5000", api.ErrCharge}, {"7 ann 0x120 done 5000", api.ErrCharge}, {"7 ann 1025x120 done 5000", api.ErrCharge}, {"7 ann 9999999999999x0 done 5000", api.ErrCharge}, {"7 ann 8x1073741825 done 5000", api.ErrCharge}, {"7 ann 8x120 done 1099511627777", api.ErrCharge}, {"7 ann 8x120 done 9999999999999", api.ErrCharge},
		{"0 ann 0x120 done x", api.ErrText}, {"0 ann 8x120 waiting 5000", api.ErrText},
		{"0 ann 8x120  5000", api.ErrText}, {"7 ann 8x120  5000", api.ErrText},
	} {
		if c, e := book.Parse(x.line); c != (api.Charge{}) || e != x.e {
			t.Errorf("Parse(%q) is %v, %d; want %d", x.line, c, e, x.e)
		}
	}
}

func TestLineAndParseAreInverse(t *testing.T) {
	r := rand.New(rand.NewSource(41))
	for range 3000 {
		c := api.Charge{ID: 1 + uint32(r.Intn(1<<32-1)), Account: "a" + strconv.Itoa(r.Intn(100)), Workers: 1 + r.Intn(1024), Seconds: r.Intn(api.MaxLimit + 1), How: []int{0, 5, 6, 7, 8}[r.Intn(5)], At: r.Intn(api.MaxTime + 1)}
		text, e := book.Line(c)
		if e != api.OK {
			t.Fatal(c, e)
		}
		if back, e := book.Parse(text); back != c || e != api.OK {
			t.Fatal(c, text, back, e)
		}
	}
}

func entry(id uint32, account string, workers, seconds, at int) api.Charge {
	return api.Charge{ID: id, Account: account, Workers: workers, Seconds: seconds, How: api.JobDone, At: at}
}

func TestTotalAndOf(t *testing.T) {
	l := []api.Charge{entry(1, "a", 8, 120, 0), entry(2, "b", 1, 7, 0), entry(1, "a", 2, 3, 5), entry(3, "a", 1024, 0, 5), entry(1, "b", 1, 1, 9)}
	for _, x := range []struct {
		account string
		want    int
	}{{"a", 966}, {"b", 8}, {"c", 0}, {"", 0}, {"A", 0}} {
		if n := book.Total(l, x.account); n != x.want {
			t.Error(x, n)
		}
	}
	for _, x := range [][3]int{{1, 124, 3}, {2, 7, 1}, {3, 0, 1}, {4, 0, 0}, {0, 0, 0}} {
		if seconds, n := book.Of(l, uint32(x[0])); seconds != x[1] || n != x[2] {
			t.Error(x, seconds, n)
		}
	}
	if book.Total(nil, "a") != 0 {
		t.Error("of nothing")
	}
	full := slices.Repeat([]api.Charge{entry(1, "a", 1024, api.MaxLimit, 5)}, api.MaxCharges)
	if n := book.Total(full, "a"); n != 2000<<40 {
		t.Error(n)
	}
	if seconds, n := book.Of(full, 1); seconds != 2000<<30 || n != 2000 {
		t.Error(seconds, n)
	}
}

func TestUsage(t *testing.T) {
	l := []api.Charge{entry(1, "ann", 10, 10, 0), entry(2, "bob", 5, 5, 3), entry(3, "ann", 7, 1, 10)}
	for _, x := range []struct {
		account         string
		now, half, want int
	}{{"ann", 20, 10, 28}, {"ann", 10, 10, 57}, {"bob", 13, 10, 12}, {"bob", 10, 7, 12}, {"nobody", 10, 10, 0}, {"ann", api.MaxTicks, 10, 0}, {"ann", 10, api.MaxTicks, 107}} {
		if n, e := book.Usage(l, x.account, x.now, x.half); n != x.want || e != api.OK {
			t.Error(x, n, e)
		}
	}
	if n, e := book.Usage(nil, "ann", 0, 1); n != 0 || e != api.OK {
		t.Error(n, e)
	}
	for _, x := range [][2]int{{20, 0}, {20, -1}, {20, api.MaxTicks + 1}, {9, 10}, {-1, 10}, {api.MaxTicks + 1, 10}, {api.MinInt, api.MinInt}, {api.MaxInt, api.MaxInt}} {
		for _, account := range []string{"ann", "bob", "nobody"} {
			if n, e := book.Usage(l, account, x[0], x[1]); n != 0 || e != api.ErrArg {
				t.Error(x, account, n, e)
			}
		}
	}
	if n, e := book.Usage(l[2:], "bob", 9, 10); n != 0 || e != api.ErrArg {
		t.Error(n, e)
	}
	for _, x := range [][2]int{{20, 0}, {-1, 10}, {api.MaxTicks + 1, 10}, {20, api.MaxTicks + 1}} {
		if n, e := book.Usage(nil, "ann", x[0], x[1]); n != 0 || e != api.ErrArg {
			t.Error(x, n, e)
		}
	}
}

func random(r *rand.Rand) []api.Charge {
	l := []api.Charge{}
	at := 0
	for range r.Intn(20) {
		at += r.Intn(30)
		l = append(l, entry(uint32(1+r.Intn(5)), string(rune('a'+r.Intn(3))), 1+r.Intn(9), r.Intn(99), at))
	}
	return l
}

func TestUsageIsChargedStepByStep(t *testing.T) {
	r := rand.New(rand.NewSource(42))
	for range 500 {
		l := random(r)
		kept := slices.Clone(l)
		half, now := 1+r.Intn(50), r.Intn(40)
		if len(l) > 0 {
			now += l[len(l)-1].At
		}
		u := api.Usage{}
		for _, c := range l {
			if c.Account == "a" {
				u, _ = decay.Charge(u, c.At, c.Workers*c.Seconds, half)
			}
		}
		u, _ = decay.Charge(u, now, 0, half)
		if n, e := book.Usage(l, "a", now, half); n != u.N || e != api.OK {
			t.Fatal(l, now, half, n, e)
		}
		if !slices.Equal(l, kept) {
			t.Fatal("an argument was changed")
		}
	}
}

func TestProperties(t *testing.T) {
	r := rand.New(rand.NewSource(43))
	for range 500 {
		l := random(r)
		all := 0
		for _, c := range l {
			all += c.Workers * c.Seconds
		}
		if sum := book.Total(l, "a") + book.Total(l, "b") + book.Total(l, "c"); sum != all {
			t.Fatal(l, sum, all)
		}
		for n := range l {
			if book.Total(l[:n+1], "a") < book.Total(l[:n], "a") {
				t.Fatal(l, n)
			}
		}
	}
}
