package indexes_test

import (
	"math/rand"
	"regexp"
	"slices"
	"strconv"
	"strings"
	"testing"

	"ganger/api"
	"ganger/indexes"
)

var syntax = regexp.MustCompile(`^I(,I)*(%N)?$`)

func init() {
	number := `(0|[1-9][0-9]{0,3})`
	item := number + `(-` + number + `(:` + number + `)?)?`
	text := strings.ReplaceAll(strings.ReplaceAll(syntax.String(), "I", item), "N", number)
	syntax = regexp.MustCompile(text)
}

// wantTextFault returns where no text with the syntax goes on like that, or -1.
func wantTextFault(text string) int {
	if syntax.MatchString(text) {
		return -1
	}
	for n := range len(text) {
		if begin := text[:n+1]; !syntax.MatchString(begin) && !syntax.MatchString(begin+"1") {
			return n
		}
	}
	return len(text)
}

func numbers(text string) []int {
	l := []int{}
	for _, word := range strings.FieldsFunc(text, func(r rune) bool { return r == '-' || r == ':' }) {
		n, _ := strconv.Atoi(word)
		l = append(l, n)
	}
	return l
}

// want returns what Parse should answer, from a text with the syntax.
func want(text string) (api.Array, int, api.Errno) {
	a := api.Array{}
	items, most, limited := strings.Cut(text, "%")
	at := 0
	for _, item := range strings.Split(items, ",") {
		l := numbers(item)
		low, high, by := l[0], l[0], 1
		if len(l) > 1 {
			high = l[1]
		}
		if len(l) > 2 {
			by = l[2]
		}
		if slices.Max(l) > 1000 || high < low || by == 0 {
			return api.Array{}, at, api.ErrArg
		}
		for i := low; i <= high; i += by {
			a.L = append(a.L, i)
		}
		at += len(item) + 1
	}
	slices.Sort(a.L)
	a.L = slices.Compact(a.L)
	if limited {
		a.Most = numbers(most)[0]
		if a.Most == 0 || a.Most > 1000 {
			return api.Array{}, len(items), api.ErrArg
		}
	}
	return a, 0, api.OK
}

func equal(a, b api.Array) bool {
	return a.Most == b.Most && slices.Equal(a.L, b.L)
}

func check(t *testing.T, text string) {
	t.Helper()
	a, at, e := indexes.Parse(text)
	if fault := wantTextFault(text); fault >= 0 {
		if len(a.L) != 0 || a.Most != 0 || at != fault || e != api.ErrText {
			t.Errorf("Parse(%q) is %v, %d, %d; want ErrText at %d", text, a, at, e, fault)
		}
		return
	}
	wantA, wantAt, wantE := want(text)
	if !equal(a, wantA) || at != wantAt || e != wantE {
		t.Errorf("Parse(%q) is %v, %d, %d; want %v, %d, %d", text, a, at, e, wantA, wantAt, wantE)
	}
}

// all calls f with every text of at most n of these letters.
func all(letters string, n int, f func(string)) {
	var more func(string)
	more = func(text string) {
		f(text)
		if len(text) < n {
			for _, c := range []byte(letters) {
				more(text + string(c))
			}
		}
	}
	more("")
}

func TestParseEveryShortText(t *testing.T) {
	all("012,-:%x", 5, func(text string) { check(t, text) })
}

func TestParseDigits(t *testing.T) {
	all("019", 6, func(text string) {
		check(t, text)
		check(t, "1-"+text)
		check(t, "0-9:"+text)
		check(t, "1%"+text)
		check(t, "7,"+text+"-1000")
	})
}

func TestParseRandomTexts(t *testing.T) {
	r := rand.New(rand.NewSource(12))
	pieces := []string{"0", "1", "3", "17", "999", "1000", "1001", "9999", "10000", "007", "00", "-", "-", ":", ",", ",", "%", " ", "é", "\x80", "\xc3", "\x00", "+"}
	for range 50000 {
		text := ""
		for range 1 + r.Intn(9) {
			text += pieces[r.Intn(len(pieces))]
		}
		check(t, text)
	}
	for range 50000 {
		text := ""
		for i := range 1 + r.Intn(4) {
			if i > 0 {
				text += ","
			}
			text += strconv.Itoa(r.Intn(1003))
			if r.Intn(2) == 0 {
				text += "-" + strconv.Itoa(r.Intn(1003))
				if r.Intn(2) == 0 {
					text += ":" + strconv.Itoa(r.Intn(5))
				}
			}
		}
		if r.Intn(2) == 0 {
			text += "%" + strconv.Itoa(r.Intn(1003))
		}
		check(t, text)
	}
}

func TestParseExamples(t *testing.T) {
	for _, x := range []struct {
		text string
		l    []int
		most int
		at   int
		e    api.Errno
	}{
		{"0-8:4,20%3", []int{0, 4, 8, 20}, 3, 0, api.OK},
		{"20,0-8:4,4%1000", []int{0, 4, 8, 20}, 1000, 0, api.OK},
		{"1000", []int{1000}, 0, 0, api.OK},
		{"5-5", []int{5}, 0, 0, api.OK},
		{"5-6:1000", []int{5}, 0, 0, api.OK},
		{"3,3,3", []int{3}, 0, 0, api.OK},
		{"1,,2", nil, 0, 2, api.ErrText},
		{"5-3", nil, 0, 0, api.ErrArg},
		{"", nil, 0, 0, api.ErrText},
		{"1,", nil, 0, 2, api.ErrText},
		{"1-", nil, 0, 2, api.ErrText},
		{"1-2:", nil, 0, 4, api.ErrText},
		{"1%", nil, 0, 2, api.ErrText},
		{"1%2%3", nil, 0, 3, api.ErrText},
		{"1%2,3", nil, 0, 3, api.ErrText},
		{"1%2-3", nil, 0, 3, api.ErrText},
		{"1:2", nil, 0, 1, api.ErrText},
		{"1-2-3", nil, 0, 3, api.ErrText},
		{"1-9:2:2", nil, 0, 5, api.ErrText},
		{"01", nil, 0, 1, api.ErrText},
		{"12345", nil, 0, 4, api.ErrText},
		{"%3", nil, 0, 0, api.ErrText},
		{"5-3,x", nil, 0, 4, api.ErrText},
		{"5-3,7,", nil, 0, 6, api.ErrText},
		{"1,2-9:0,5-3", nil, 0, 2, api.ErrArg},
		{"1,2-9:1001", nil, 0, 2, api.ErrArg},
		{"1,1001", nil, 0, 2, api.ErrArg},
		{"1,2,0-1001", nil, 0, 4, api.ErrArg},
		{"1%0", nil, 0, 1, api.ErrArg},
		{"1-5%1001", nil, 0, 3, api.ErrArg},
		{"9999%0", nil, 0, 0, api.ErrArg},
		{"1\xc3\xa9", nil, 0, 1, api.ErrText},
		{"1,\xff", nil, 0, 2, api.ErrText},
		{"１", nil, 0, 0, api.ErrText},
	} {
		a, at, e := indexes.Parse(x.text)
		if !equal(a, api.Array{L: x.l, Most: x.most}) || at != x.at || e != x.e {
			t.Errorf("Parse(%q) is %v, %d, %d", x.text, a, at, e)
		}
	}
}

func TestCheckAndPrint(t *testing.T) {
	for _, x := range []struct {
		a    api.Array
		text string
		e    api.Errno
	}{
		{api.Array{L: []int{1, 2, 3, 7}}, "1-3,7", api.OK},
		{api.Array{L: []int{1, 2}}, "1-2", api.OK},
		{api.Array{L: []int{0}}, "0", api.OK},
		{api.Array{L: []int{0, 2, 4, 5, 1000}, Most: 1}, "0,2,4-5,1000%1", api.OK},
		{api.Array{L: []int{999, 1000}, Most: 1000}, "999-1000%1000", api.OK},
		{api.Array{}, "", api.ErrArg},
		{api.Array{Most: 3}, "", api.ErrArg},
		{api.Array{L: []int{-1}}, "", api.ErrArg},
		{api.Array{L: []int{1001}}, "", api.ErrArg},
		{api.Array{L: []int{1, 1}}, "", api.ErrArg},
		{api.Array{L: []int{2, 1}}, "", api.ErrArg},
		{api.Array{L: []int{1, 2, 5, 4}}, "", api.ErrArg},
		{api.Array{L: []int{1}, Most: -1}, "", api.ErrArg},
		{api.Array{L: []int{1}, Most: 1001}, "", api.ErrArg},
		{api.Array{L: []int{api.MinInt, api.MaxInt}, Most: 1}, "", api.ErrArg},
	} {
		if e := indexes.Check(x.a); e != x.e {
			t.Error(x, e)
		}
		if text, e := indexes.Print(x.a); text != x.text || e != x.e {
			t.Error(x, text, e)
		}
	}
}

func TestWhatIsPrintedIsReadBack(t *testing.T) {
	r := rand.New(rand.NewSource(13))
	for range 2000 {
		a := api.Array{Most: r.Intn(3) * r.Intn(501)}
		dense := r.Intn(4)
		for i := r.Intn(900); i <= api.MaxIndex && len(a.L) < 40; i++ {
			if len(a.L) == 0 || r.Intn(4) <= dense {
				a.L = append(a.L, i)
			}
		}
		kept := slices.Clone(a.L)
		text, e := indexes.Print(a)
		if e != api.OK || !slices.Equal(a.L, kept) {
			t.Fatal(a, text, e)
		}
		b, at, e := indexes.Parse(text)
		if e != api.OK || at != 0 || !equal(a, b) {
			t.Fatal(a, text, b, at, e)
		}
		if again, e := indexes.Print(b); again != text || e != api.OK {
			t.Fatal(text, again, e)
		}
	}
	whole := api.Array{Most: 3}
	for i := range 1001 {
		whole.L = append(whole.L, i)
	}
	if text, e := indexes.Print(whole); text != "0-1000%3" || e != api.OK {
		t.Error(text, e)
	}
}
