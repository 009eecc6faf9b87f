package share_test

import (
	"math/big"
	"math/rand"
	"slices"
	"strconv"
	"testing"

	"ganger/api"
	"ganger/share"
)

func example() []api.Account {
	return []api.Account{{Name: "root", Shares: 1}, {Name: "phys", Parent: "root", Shares: 3}, {Name: "chem", Parent: "root", Shares: 1}, {Name: "ann", Parent: "phys", Shares: 1}}
}

// random makes n accounts; often the names do not tell the order.
func random(r *rand.Rand, n int) []api.Account {
	names := r.Perm(n)
	l := []api.Account{{Name: "a" + strconv.Itoa(names[0]), Shares: 1 + r.Intn(9)}}
	for i := 1; i < n; i++ {
		shares := 1 + r.Intn(9)
		if r.Intn(4) == 0 {
			shares = 1 + r.Intn(api.MaxWeight)
		}
		l = append(l, api.Account{Name: "a" + strconv.Itoa(names[i]), Parent: l[r.Intn(i)].Name, Shares: shares})
	}
	return l
}

func usage(r *rand.Rand, n int) []int {
	most := []int{1, 10, 1 << 40, api.MaxInt}[r.Intn(4)]
	l := []int{}
	for range n {
		l = append(l, r.Intn(most))
	}
	return l
}

// below are an account and all that are below it.
func below(l []api.Account, i int) []int {
	all := []int{i}
	for j := range l {
		if l[j].Parent == l[i].Name {
			all = append(all, below(l, j)...)
		}
	}
	return all
}

func down(a, b, c int) int {
	n := new(big.Int).Mul(big.NewInt(int64(a)), big.NewInt(int64(b)))
	return int(n.Div(n, big.NewInt(int64(c))).Int64())
}

func wantList(t *testing.T, what string, got []int, e api.Errno, want []int) {
	t.Helper()
	if e != api.OK || !slices.Equal(got, want) {
		t.Errorf("%s: %v, %d; want %v", what, got, e, want)
	}
}

func TestExample(t *testing.T) {
	l, own := example(), []int{0, 40, 60, 0}
	got, e := share.Sums(l, own)
	wantList(t, "sums", got, e, []int{100, 40, 60, 0})
	got, e = share.Norms(l)
	wantList(t, "norms", got, e, []int{65536, 49152, 16384, 49152})
	got, e = share.Parts(l, own)
	wantList(t, "parts", got, e, []int{65536, 26214, 39321, 0})
	got, e = share.Factors(l, own)
	wantList(t, "factors", got, e, []int{32768, 42741, 19275, 65536})
	if !slices.Equal(l, example()) || !slices.Equal(own, []int{0, 40, 60, 0}) {
		t.Error("an argument was changed")
	}
}

func TestNothingUsed(t *testing.T) {
	l, own := example(), make([]int, 4)
	got, e := share.Sums(l, own)
	wantList(t, "sums", got, e, own)
	got, e = share.Parts(l, own)
	wantList(t, "parts", got, e, own)
	got, e = share.Factors(l, own)
	wantList(t, "factors", got, e, []int{65536, 65536, 65536, 65536})
}

func TestOneAccount(t *testing.T) {
	l := []api.Account{{Name: "x", Shares: 9}}
	got, e := share.Norms(l)
	wantList(t, "norms", got, e, []int{65536})
	got, e = share.Factors(l, []int{api.MaxInt})
	wantList(t, "factors", got, e, []int{32768})
	got, e = share.Parts(l, []int{1})
	wantList(t, "parts", got, e, []int{65536})
}

func TestSumsSaturate(t *testing.T) {
	got, e := share.Sums(example(), []int{1, api.MaxInt, 5, 1})
	wantList(t, "sums", got, e, []int{api.MaxInt, api.MaxInt, 5, 1})
	got, e = share.Parts(example(), []int{1, api.MaxInt, 5, 1})
	wantList(t, "parts", got, e, []int{65536, 65536, 0, 0})
}

func TestAnAccountWithoutNormHasTheFactorZero(t *testing.T) {
	l := []api.Account{{Name: "root", Shares: 1}, {Name: "a", Parent: "root", Shares: 1}, {Name: "b", Parent: "root", Shares: api.MaxWeight}}
	got, e := share.Norms(l)
	wantList(t, "norms", got, e, []int{65536, 0, 65535})
	got, e = share.Factors(l, []int{0, 0, 5})
	wantList(t, "factors", got, e, []int{32768, 0, down(65536, 65535, 65535+65536)})
	got, e = share.Factors(l, []int{0, 0, 0})
	wantList(t, "factors", got, e, []int{65536, 0, 65536})
	got, e = share.Factors(l, []int{0, 5, 0})
	wantList(t, "factors", got, e, []int{32768, 0, 65536})
}

func TestLikeTheChapter(t *testing.T) {
	r := rand.New(rand.NewSource(20))
	for range 400 {
		l := random(r, 1+r.Intn(12))
		own := usage(r, len(l))
		sums, norms, parts, factors := []int{}, []int{}, []int{}, []int{}
		for i, a := range l {
			sum := new(big.Int)
			for _, j := range below(l, i) {
				sum.Add(sum, big.NewInt(int64(own[j])))
			}
			if !sum.IsInt64() {
				sum.SetInt64(api.MaxInt)
			}
			sums = append(sums, int(sum.Int64()))
			norm, all := api.Unit, 0
			for _, b := range l[1:] {
				if b.Parent == a.Parent {
					all += b.Shares
				}
			}
			for j, b := range l {
				if i > 0 && b.Name == a.Parent {
					norm = down(norms[j], a.Shares, all)
				}
			}
			norms = append(norms, norm)
		}
		for i := range l {
			part, factor := 0, 0
			if sums[0] > 0 {
				part = down(sums[i], api.Unit, sums[0])
			}
			if norms[i]+part > 0 {
				factor = down(api.Unit, norms[i], norms[i]+part)
			}
			parts, factors = append(parts, part), append(factors, factor)
		}
		got, e := share.Sums(l, own)
		wantList(t, "sums", got, e, sums)
		got, e = share.Norms(l)
		wantList(t, "norms", got, e, norms)
		got, e = share.Parts(l, own)
		wantList(t, "parts", got, e, parts)
		got, e = share.Factors(l, own)
		wantList(t, "factors", got, e, factors)
	}
}

func TestProperties(t *testing.T) {
	r := rand.New(rand.NewSource(21))
	for range 300 {
		l := random(r, 1+r.Intn(20))
		own := usage(r, len(l))
		norms, _ := share.Norms(l)
		for i, a := range l {
			sum := 0
			for j, b := range l {
				if b.Parent == a.Name {
					sum += norms[j]
				}
			}
			if sum > norms[i] {
				t.Fatal("the norms of the children of", a, "add up to", sum, "of", norms[i])
			}
		}
		before, _ := share.Factors(l, own)
		i := r.Intn(len(l))
		if own[i] < api.MaxInt/2 && len(l) > 1 {
			own[i] = own[i]*2 + 1
			after, _ := share.Factors(l, own)
			if after[i] > before[i] {
				t.Fatal("with more usage the factor increases:", l, own, i, before, after)
			}
		}
	}
}

func TestRefuses(t *testing.T) {
	long := example()[:1]
	for i := range 50 {
		long = append(long, api.Account{Name: "a" + strconv.Itoa(i), Parent: "root", Shares: 1})
	}
	change := func(i int, a api.Account) []api.Account {
		l := example()
		l[i] = a
		return l
	}
	for _, l := range [][]api.Account{
		nil, {}, long,
		change(0, api.Account{Name: "root", Parent: "root", Shares: 1}),
		change(1, api.Account{Name: "phys", Parent: "", Shares: 1}),
		change(1, api.Account{Name: "phys", Parent: "ann", Shares: 1}),
		change(1, api.Account{Name: "phys", Parent: "phys", Shares: 1}),
		change(2, api.Account{Name: "phys", Parent: "root", Shares: 1}),
		change(2, api.Account{Name: "a b", Parent: "root", Shares: 1}),
		change(3, api.Account{Name: "ann", Parent: "root", Shares: 0}),
		change(3, api.Account{Name: "ann", Parent: "root", Shares: api.MaxWeight + 1}),
		change(0, api.Account{Name: "root", Shares: -1}),
	} {
		for _, own := range [][]int{make([]int, len(l)), nil, slices.Repeat([]int{-1}, len(l)+1)} {
			got, e := share.Sums(l, own)
			if len(got) != 0 || e != api.ErrConf {
				t.Error("Sums", l, got, e)
			}
			got, e = share.Parts(l, own)
			if len(got) != 0 || e != api.ErrConf {
				t.Error("Parts", l, got, e)
			}
			got, e = share.Factors(l, own)
			if len(got) != 0 || e != api.ErrConf {
				t.Error("Factors", l, got, e)
			}
		}
		if got, e := share.Norms(l); len(got) != 0 || e != api.ErrConf {
			t.Error("Norms", l, got, e)
		}
	}
	for _, own := range [][]int{nil, {1}, {1, 2, 3}, {1, 2, 3, 4, 5}, {-1, 0, 0, 0}, {0, 0, 0, -1}, {0, 0, api.MinInt, 0}} {
		got, e := share.Sums(example(), own)
		if len(got) != 0 || e != api.ErrArg {
			t.Error("Sums", own, got, e)
		}
		got, e = share.Parts(example(), own)
		if len(got) != 0 || e != api.ErrArg {
			t.Error("Parts", own, got, e)
		}
		got, e = share.Factors(example(), own)
		if len(got) != 0 || e != api.ErrArg {
			t.Error("Factors", own, got, e)
		}
	}
}

func TestResultsAreNewMemory(t *testing.T) {
	l, own := example(), []int{1, 2, 3, 4}
	sums, _ := share.Sums(l, own)
	sums[1] = 77
	norms, _ := share.Norms(l)
	norms[1] = 77
	if again, _ := share.Norms(l); again[1] != 49152 || !slices.Equal(own, []int{1, 2, 3, 4}) {
		t.Error(again, own)
	}
}
