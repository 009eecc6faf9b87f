package conf_test

import (
	"math/rand"
	"reflect"
	"slices"
	"strconv"
	"strings"
	"testing"

	"ganger/api"
	"ganger/conf"
)

func good() api.Conf {
	return api.Conf{
		Policy: api.PolicyEasy, Half: 3600, Quantum: 10, Requeues: 2,
		Weights: api.Weights{Fair: 1, Age: 2, Size: 3, QOS: 4, Part: 5},
		Parts:   []api.Part{{Name: "main", Order: 5, Prio: 1, Limit: 86400}, {Name: "é", Order: 0, Prio: 0, Limit: 1}},
		Classes: []api.Class{{Name: "normal", Prio: 0, Most: 100}, {Name: "main", Prio: api.MaxWeight, Most: api.MaxWeight}},
		Accounts: []api.Account{
			{Name: "root", Shares: 1}, {Name: "phys", Parent: "root", Shares: 3}, {Name: "ann", Parent: "phys", Shares: api.MaxWeight}, {Name: "main", Parent: "root", Shares: 1},
		},
	}
}

const goodText = `policy easy
half 3600
quantum 10
requeues 2
weights 1 2 3 4 5
partition main order 5 priority 1 limit 86400
partition é order 0 priority 0 limit 1
qos normal priority 0 most 100
qos main priority 1048576 most 1048576
account root shares 1
account phys parent root shares 3
account ann parent phys shares 1048576
account main parent root shares 1
`

// with returns the good configuration, changed.
func with(change func(c *api.Conf)) api.Conf {
	c := good()
	change(&c)
	return c
}

func parts(n int) []api.Part {
	l := []api.Part{}
	for i := range n {
		l = append(l, api.Part{Name: "p" + strconv.Itoa(i), Limit: 1})
	}
	return l
}

func classes(n int) []api.Class {
	l := []api.Class{}
	for i := range n {
		l = append(l, api.Class{Name: "c" + strconv.Itoa(i), Most: 1})
	}
	return l
}

// accounts in a row: each is the parent of the next one.
func accounts(n int) []api.Account {
	l := []api.Account{{Name: "a0", Shares: 1}}
	for i := 1; i < n; i++ {
		l = append(l, api.Account{Name: "a" + strconv.Itoa(i), Parent: l[i-1].Name, Shares: 1})
	}
	return l
}

func valid() []api.Conf {
	return []api.Conf{
		good(),
		with(func(c *api.Conf) { c.Policy = api.PolicyFIFO }),
		with(func(c *api.Conf) { c.Policy = api.PolicyConservative }),
		with(func(c *api.Conf) { c.Policy = api.PolicyGang }),
		with(func(c *api.Conf) { c.Half = 1 }),
		with(func(c *api.Conf) { c.Half = 1 << 32 }),
		with(func(c *api.Conf) { c.Quantum = 1 }),
		with(func(c *api.Conf) { c.Quantum = api.MaxLimit }),
		with(func(c *api.Conf) { c.Requeues = 0 }),
		with(func(c *api.Conf) { c.Requeues = 100 }),
		with(func(c *api.Conf) { c.Weights = api.Weights{} }),
		with(func(c *api.Conf) {
			c.Weights = api.Weights{Fair: api.MaxWeight, Age: api.MaxWeight, Size: api.MaxWeight, QOS: api.MaxWeight, Part: api.MaxWeight}
		}),
		with(func(c *api.Conf) { c.Parts = parts(1) }),
		with(func(c *api.Conf) { c.Parts = parts(8) }),
		with(func(c *api.Conf) {
			c.Parts[0] = api.Part{Name: "x", Order: api.MaxOrder, Prio: api.MaxWeight, Limit: api.MaxLimit}
		}),
		with(func(c *api.Conf) { c.Classes = classes(1) }),
		with(func(c *api.Conf) { c.Classes = classes(8) }),
		with(func(c *api.Conf) { c.Accounts = accounts(1) }),
		with(func(c *api.Conf) { c.Accounts = accounts(50) }),
	}
}

func invalid() []api.Conf {
	l := []api.Conf{
		{},
		with(func(c *api.Conf) { c.Policy = 0 }),
		with(func(c *api.Conf) { c.Policy = 5 }),
		with(func(c *api.Conf) { c.Policy = -1 }),
		with(func(c *api.Conf) { c.Half = 0 }),
		with(func(c *api.Conf) { c.Half = 1<<32 + 1 }),
		with(func(c *api.Conf) { c.Quantum = 0 }),
		with(func(c *api.Conf) { c.Quantum = api.MaxLimit + 1 }),
		with(func(c *api.Conf) { c.Requeues = -1 }),
		with(func(c *api.Conf) { c.Requeues = 101 }),
		with(func(c *api.Conf) { c.Parts = nil }),
		with(func(c *api.Conf) { c.Parts = parts(9) }),
		with(func(c *api.Conf) { c.Parts[1].Name = "main" }),
		with(func(c *api.Conf) { c.Parts[0].Name = "" }),
		with(func(c *api.Conf) { c.Parts[1].Name = "a b" }),
		with(func(c *api.Conf) { c.Parts[0].Order = -1 }),
		with(func(c *api.Conf) { c.Parts[1].Order = api.MaxOrder + 1 }),
		with(func(c *api.Conf) { c.Parts[0].Prio = -1 }),
		with(func(c *api.Conf) { c.Parts[1].Prio = api.MaxWeight + 1 }),
		with(func(c *api.Conf) { c.Parts[0].Limit = 0 }),
		with(func(c *api.Conf) { c.Parts[1].Limit = api.MaxLimit + 1 }),
		with(func(c *api.Conf) { c.Classes = nil }),
		with(func(c *api.Conf) { c.Classes = classes(9) }),
		with(func(c *api.Conf) { c.Classes[1].Name = "normal" }),
		with(func(c *api.Conf) { c.Classes[0].Name = "\xff" }),
		with(func(c *api.Conf) { c.Classes[0].Prio = -1 }),
		with(func(c *api.Conf) { c.Classes[1].Prio = api.MaxWeight + 1 }),
		with(func(c *api.Conf) { c.Classes[1].Most = 0 }),
		with(func(c *api.Conf) { c.Classes[0].Most = api.MaxWeight + 1 }),
		with(func(c *api.Conf) { c.Accounts = nil }),
		with(func(c *api.Conf) { c.Accounts = accounts(51) }),
		with(func(c *api.Conf) { c.Accounts[0].Parent = "root" }),
		with(func(c *api.Conf) { c.Accounts[0].Parent = "phys" }),
		with(func(c *api.Conf) { c.Accounts[1].Parent = "" }),
		with(func(c *api.Conf) { c.Accounts[1].Parent = "phys" }),
		with(func(c *api.Conf) { c.Accounts[1].Parent = "ann" }),
		with(func(c *api.Conf) { c.Accounts[3].Parent = "nobody" }),
		with(func(c *api.Conf) { c.Accounts[3].Name = "phys" }),
		with(func(c *api.Conf) { c.Accounts[3].Name = "root" }),
		with(func(c *api.Conf) { c.Accounts[2].Name = "" }),
		with(func(c *api.Conf) { c.Accounts[0].Name = "" }),
		with(func(c *api.Conf) { c.Accounts[0].Shares = 0 }),
		with(func(c *api.Conf) { c.Accounts[2].Shares = api.MaxWeight + 1 }),
	}
	for _, n := range []int{-1, api.MaxWeight + 1, api.MinInt, api.MaxInt} {
		l = append(l,
			with(func(c *api.Conf) { c.Weights.Fair = n }),
			with(func(c *api.Conf) { c.Weights.Age = n }),
			with(func(c *api.Conf) { c.Weights.Size = n }),
			with(func(c *api.Conf) { c.Weights.QOS = n }),
			with(func(c *api.Conf) { c.Weights.Part = n }),
		)
	}
	return l
}

func TestCheck(t *testing.T) {
	for _, c := range valid() {
		if e := conf.Check(c); e != api.OK {
			t.Errorf("%+v: %d", c, e)
		}
	}
	for _, c := range invalid() {
		if e := conf.Check(c); e != api.ErrConf {
			t.Errorf("%+v: %d", c, e)
		}
		if text, e := conf.Print(c); text != "" || e != api.ErrConf {
			t.Errorf("%+v: %q, %d", c, text, e)
		}
		if path := conf.Path(c, "root"); len(path) != 0 {
			t.Errorf("%+v: %v", c, path)
		}
	}
}

func TestPrint(t *testing.T) {
	if text, e := conf.Print(good()); text != goodText || e != api.OK {
		t.Errorf("%q, %d", text, e)
	}
	for policy, word := range []string{1: "fifo", 2: "easy", 3: "conservative", 4: "gang"} {
		c := with(func(c *api.Conf) { c.Policy = policy })
		if text, _ := conf.Print(c); policy > 0 && text != strings.Replace(goodText, "easy", word, 1) {
			t.Error(policy, text)
		}
	}
}

func TestPrintAndParseAreInverse(t *testing.T) {
	for _, c := range valid() {
		text, e := conf.Print(c)
		if e != api.OK {
			t.Fatal(e)
		}
		back, line, e := conf.Parse(text)
		if e != api.OK || line != 0 || !reflect.DeepEqual(back, c) {
			t.Errorf("%q: %+v, %d, %d", text, back, line, e)
		}
	}
}

func TestParseExample(t *testing.T) {
	text := "policy easy\nhalf 3600\nquantum 10\nrequeues 2\nweights 1 2 3 4 5\npartition main order 5 priority 1 limit 86400\nqos normal priority 0 most 100\naccount root shares 1\n"
	want := api.Conf{Policy: 2, Half: 3600, Quantum: 10, Requeues: 2, Weights: api.Weights{Fair: 1, Age: 2, Size: 3, QOS: 4, Part: 5},
		Parts: []api.Part{{Name: "main", Order: 5, Prio: 1, Limit: 86400}}, Classes: []api.Class{{Name: "normal", Most: 100}}, Accounts: []api.Account{{Name: "root", Shares: 1}}}
	if c, line, e := conf.Parse(text); !reflect.DeepEqual(c, want) || line != 0 || e != api.OK {
		t.Errorf("%+v, %d, %d", c, line, e)
	}
}

func wantFault(t *testing.T, text string, line int, want api.Errno) {
	t.Helper()
	if c, n, e := conf.Parse(text); !reflect.DeepEqual(c, api.Conf{}) || n != line || e != want {
		t.Errorf("Parse(%q) is %+v, %d, %d; want line %d, %d", text, c, n, e, line, want)
	}
}

// malformed are lines that have no form, wherever they stand.
var malformed = []string{
	"", " ", "x", "policy", "policy ", "policy Easy", "policy 2", "policy easy ", " policy easy", "policy  easy", "policy easy fifo", "policy easy\r",
	"half", "half ", "half x", "half -1", "half +1", "half 01", "half 00", "half 12345678901", "half 1 2", "half  1", "half 1 ", "half １",
	"quantum", "quantum x", "quantum 01", "quantum 1 1", "requeues", "requeues x", "requeues 00", "requeues 1 1",
	"weights", "weights 1 2 3 4", "weights 1 2 3 4 5 6", "weights 1 2 3 4 x", "weights 1 2 03 4 5", "weights 1 2  4 5", "weights x 2 3 4 5", "weights 1 2 3 4 5 ",
	"partition", "partition main", "partition main order 5 priority 1", "partition main order 5 priority 1 limit", "partition main order 5 priority 1 limit 1 x", "partition main order 5 priority 1 limit 1 x 5",
	"partition main priority 1 order 5 limit 1", "partition main order x priority 1 limit 1", "partition main order 5 priority 1 limit 01", "partition a/b order 5 priority 1 limit 1", "partition  order 5 priority 1 limit 1",
	"partition \xff order 5 priority 1 limit 1", "partition main order -5 priority 1 limit 1", "partition main most 5 priority 1 limit 1", "Partition main order 5 priority 1 limit 1", "partition xxxxxxxxxxxxxxxxxxxxxxxxxxxxxxxxx order 5 priority 1 limit 1",
	"qos", "qos normal", "qos normal priority 0", "qos normal priority 0 most", "qos normal most 1 priority 0", "qos normal priority x most 1", "qos normal priority 0 most 0x", "qos = priority 0 most 1", "qos normal priority 0 most 1 1", "qos  priority 0 most 1",
	"account", "account x", "account x shares", "account x shares y", "account x shares 01", "account x shares 1 1", "account x parent shares 1", "account x parent root", "account x shares 1 parent root", "account / parent root shares 1",
	"account x parent / shares 1", "account x parent  shares 1", "account  parent root shares 1", "account x parent root shares", "account x parent root shares -1", "account x parent root shares 1 ", "account x parent root order 1", "account x of root shares 1",
}

func TestParseRefusesMalformedLines(t *testing.T) {
	lines := strings.SplitAfter(goodText, "\n")
	lines = lines[:len(lines)-1]
	for at := range lines {
		for _, bad := range malformed {
			changed := slices.Clone(lines)
			changed[at] = bad + "\n"
			wantFault(t, strings.Join(changed, ""), at+1, api.ErrText)
			inserted := slices.Insert(slices.Clone(lines), at, bad+"\n")
			wantFault(t, strings.Join(inserted, ""), at+1, api.ErrText)
		}
	}
	for _, bad := range malformed {
		wantFault(t, goodText+bad+"\n", 14, api.ErrText)
		if bad != "" {
			wantFault(t, goodText+bad, 14, api.ErrText)
		}
	}
}

func TestParseKnowsTheOrderOfLines(t *testing.T) {
	lines := strings.SplitAfter(goodText, "\n")
	lines = lines[:len(lines)-1]
	// The first line that may not follow what is before it; the kinds are 0 to 4, then partitions, classes, accounts.
	kinds := []int{0, 1, 2, 3, 4, 5, 5, 6, 6, 7, 7, 7, 7}
	for i := range lines {
		for j := i + 1; j < 10; j++ { // an account with a parent would be malformed as the first one
			if kinds[i] == kinds[j] {
				continue
			}
			swapped, k := slices.Clone(lines), slices.Clone(kinds)
			swapped[i], swapped[j], k[i], k[j] = lines[j], lines[i], kinds[j], kinds[i]
			last, want := -1, 0
			for n, kind := range k {
				if kind != last+1 && (kind != last || kind < 5) {
					want = n + 1
					break
				}
				last = kind
			}
			if want > 0 {
				wantFault(t, strings.Join(swapped, ""), want, api.ErrText)
			}
		}
	}
	for n, text := range lines[:9] { // the line again, and the line left out
		again := strings.Join(slices.Insert(slices.Clone(lines), n, text), "")
		if kinds[n] < 5 {
			wantFault(t, again, n+2, api.ErrText)
		} else {
			wantFault(t, again, 0, api.ErrConf)
		}
		if kinds[n] < 5 {
			wantFault(t, strings.Join(slices.Delete(slices.Clone(lines), n, n+1), ""), n+1, api.ErrText)
		}
	}
	wantFault(t, strings.Join(slices.Delete(slices.Clone(lines), 5, 7), ""), 6, api.ErrText)
	wantFault(t, strings.Join(slices.Delete(slices.Clone(lines), 7, 9), ""), 8, api.ErrText)
	wantFault(t, goodText+lines[5], 14, api.ErrText)
	wantFault(t, goodText+lines[7], 14, api.ErrText)
	wantFault(t, goodText+lines[0], 14, api.ErrText)
}

func TestParseNeedsTheEndOfTheText(t *testing.T) {
	lines := strings.SplitAfter(goodText, "\n")
	begin := ""
	for n, text := range lines[:9] {
		wantFault(t, begin, n+1, api.ErrText)
		wantFault(t, begin+strings.TrimSuffix(text, "\n"), n+1, api.ErrText)
		begin += text
	}
	wantFault(t, strings.TrimSuffix(goodText, "\n"), 13, api.ErrText)
	wantFault(t, goodText+"\n", 14, api.ErrText)
	wantFault(t, goodText+" ", 14, api.ErrText)
	wantFault(t, goodText+"account x parent root shares 1", 14, api.ErrText)
}

func TestOnlyTheFirstAccountHasNoParent(t *testing.T) {
	wantFault(t, strings.Replace(goodText, "account root shares 1", "account root parent root shares 1", 1), 10, api.ErrText)
	wantFault(t, strings.Replace(goodText, "account phys parent root shares 3", "account phys shares 3", 1), 11, api.ErrText)
}

func TestWordsMayBeNames(t *testing.T) {
	text := "policy gang\nhalf 1\nquantum 1\nrequeues 0\nweights 0 0 0 0 0\npartition order order 0 priority 0 limit 1\nqos qos priority 0 most 1\naccount parent shares 1\naccount shares parent parent shares 2\n"
	c, line, e := conf.Parse(text)
	if e != api.OK || line != 0 || c.Parts[0].Name != "order" || c.Accounts[1] != (api.Account{Name: "shares", Parent: "parent", Shares: 2}) {
		t.Errorf("%+v, %d, %d", c, line, e)
	}
}

func TestParseRefusesInvalidConfigurations(t *testing.T) {
	for _, x := range [][2]string{
		{"half 3600", "half 0"}, {"half 3600", "half 4294967297"}, {"half 3600", "half 9999999999"}, {"quantum 10", "quantum 0"}, {"quantum 10", "quantum 1073741825"}, {"requeues 2", "requeues 101"},
		{"weights 1 2", "weights 1 1048577"}, {"main order 5", "main order 11"}, {"limit 86400", "limit 0"}, {"partition é", "partition main"}, {"priority 0 limit 1\n", "priority 1048577 limit 1\n"},
		{"qos main", "qos normal"}, {"most 100", "most 0"}, {"root shares 1\n", "root shares 0\n"}, {"parent phys", "parent main"}, {"parent phys", "parent nobody"}, {"account ann", "account root"}, {"shares 3", "shares 1048577"},
	} {
		text := strings.Replace(goodText, x[0], x[1], 1)
		if text == goodText {
			t.Error(x)
		}
		wantFault(t, text, 0, api.ErrConf)
		wantFault(t, text+"x\n", 14, api.ErrText)
	}
	wantFault(t, strings.Replace(goodText, "qos normal", strings.Repeat("partition z order 0 priority 0 limit 1\n", 7)+"qos normal", 1), 0, api.ErrConf)
	wantFault(t, goodText+strings.Repeat("account main parent root shares 1\n", 50), 0, api.ErrConf)
}

func TestPath(t *testing.T) {
	for _, x := range []struct {
		account string
		want    []string
	}{
		{"root", []string{"root"}}, {"phys", []string{"phys", "root"}}, {"ann", []string{"ann", "phys", "root"}}, {"main", []string{"main", "root"}},
		{"", nil}, {"nobody", nil}, {"normal", nil}, {"Root", nil},
	} {
		if path := conf.Path(good(), x.account); !slices.Equal(path, x.want) {
			t.Error(x, path)
		}
	}
	path := conf.Path(with(func(c *api.Conf) { c.Accounts = accounts(50) }), "a49")
	if len(path) != 50 || path[0] != "a49" || path[49] != "a0" {
		t.Error(path)
	}
}

func TestEveryAccountHasOnePath(t *testing.T) {
	r := rand.New(rand.NewSource(19))
	for range 100 {
		c := with(func(c *api.Conf) { c.Accounts = accounts(1 + r.Intn(50)) })
		for i := range c.Accounts[1:] {
			c.Accounts[i+1].Parent = c.Accounts[r.Intn(i+1)].Name
		}
		parents := map[string]string{}
		for _, a := range c.Accounts {
			parents[a.Name] = a.Parent
		}
		for _, a := range c.Accounts {
			want := []string{}
			for name := a.Name; name != ""; name = parents[name] {
				want = append(want, name)
			}
			if path := conf.Path(c, a.Name); !slices.Equal(path, want) {
				t.Fatal(path, want)
			}
		}
	}
}

func TestArgumentsAreLeft(t *testing.T) {
	c := good()
	conf.Check(c)
	conf.Print(c)
	conf.Path(c, "ann")
	if !reflect.DeepEqual(c, good()) {
		t.Error(c)
	}
}
