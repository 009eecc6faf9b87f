package clock_test

import (
	"fmt"
	"math/rand"
	"testing"

	"ganger/api"
	"ganger/clock"
)

func TestParse(t *testing.T) {
	for _, x := range []struct {
		text string
		n    int
		e    api.Errno
	}{
		{"90", 5400, api.OK}, {"1-2", 93600, api.OK}, {"0:30", 30, api.OK}, {"1:30", 90, api.OK}, {"2:03:04", 7384, api.OK},
		{"1-2:3", 93780, api.OK}, {"1-2:3:4", 93784, api.OK}, {"0-0:0:1", 1, api.OK}, {"0-1", 3600, api.OK}, {"0-0:1", 60, api.OK},
		{"1", 60, api.OK}, {"000001", 60, api.OK}, {"00:01", 1, api.OK}, {"0:0:1", 1, api.OK}, {"000000-000023:000059:000059", 86399, api.OK},
		{"999999", 59999940, api.OK}, {"999999:59", 59999999, api.OK}, {"60:00", 3600, api.OK}, {"100:59:59", 363599, api.OK},
		{"298261:36:64", 0, api.ErrArg}, {"298261:37:04", api.MaxLimit, api.OK}, {"298261:37:05", 0, api.ErrArg}, {"298261:37:03", api.MaxLimit - 1, api.OK},
		{"12427-13:37:04", api.MaxLimit, api.OK}, {"12427-13:37:05", 0, api.ErrArg}, {"12428-0", 0, api.ErrArg}, {"999999-23:59:59", 0, api.ErrArg},
		{"999999:59:59", 0, api.ErrArg},
		{"1:60", 0, api.ErrArg}, {"1:60:0", 0, api.ErrArg}, {"1:0:60", 0, api.ErrArg}, {"1-24", 0, api.ErrArg}, {"1-0:60", 0, api.ErrArg}, {"1-0:0:60", 0, api.ErrArg},
		{"0:59", 59, api.OK}, {"0:59:59", 3599, api.OK}, {"0-23", 82800, api.OK}, {"0-0:59", 3540, api.OK},
		{"0", 0, api.ErrArg}, {"0:0", 0, api.ErrArg}, {"0:0:0", 0, api.ErrArg}, {"0-0", 0, api.ErrArg}, {"0-0:0", 0, api.ErrArg}, {"0-0:0:0", 0, api.ErrArg},
		{"", 0, api.ErrText}, {"1:", 0, api.ErrText}, {":1", 0, api.ErrText}, {":", 0, api.ErrText}, {"-", 0, api.ErrText}, {"1-", 0, api.ErrText}, {"-1", 0, api.ErrText},
		{"1::2", 0, api.ErrText}, {"1:2:3:4", 0, api.ErrText}, {"1-2:3:4:5", 0, api.ErrText}, {"1-2-3", 0, api.ErrText}, {"1:2-3", 0, api.ErrText}, {"1--2", 0, api.ErrText},
		{"1-2:", 0, api.ErrText}, {"1-2:3:", 0, api.ErrText}, {"1-:3", 0, api.ErrText}, {"1:2:", 0, api.ErrText}, {"::", 0, api.ErrText}, {"1:2:3:", 0, api.ErrText},
		{"1234567", 0, api.ErrText}, {"0000001", 0, api.ErrText}, {"1:0000001", 0, api.ErrText}, {"1234567-1", 0, api.ErrText}, {"1-1:1:0000001", 0, api.ErrText},
		{" 1", 0, api.ErrText}, {"1 ", 0, api.ErrText}, {"+1", 0, api.ErrText}, {"x", 0, api.ErrText}, {"1:x", 0, api.ErrText}, {"1-x", 0, api.ErrText}, {"１", 0, api.ErrText},
		{"1\n", 0, api.ErrText}, {"1:\x80", 0, api.ErrText}, {"1:60:x", 0, api.ErrText}, {"99:60:", 0, api.ErrText}, {"1-24:x", 0, api.ErrText}, {"0:x", 0, api.ErrText},
		{":::::::::", 0, api.ErrText}, {"1.5", 0, api.ErrText},
	} {
		if n, e := clock.Parse(x.text); n != x.n || e != x.e {
			t.Errorf("Parse(%q) is %d, %d; want %d, %d", x.text, n, e, x.n, x.e)
		}
	}
}

func TestParseEveryForm(t *testing.T) {
	r := rand.New(rand.NewSource(14))
	for range 5000 {
		d, h, m, s := r.Intn(12000), r.Intn(26), r.Intn(63), r.Intn(63)
		low := func(text string, seconds int, ok bool) {
			want, wantE := seconds, api.OK
			if !ok || seconds == 0 || seconds > api.MaxLimit {
				want, wantE = 0, api.ErrArg
			}
			if n, e := clock.Parse(text); n != want || e != wantE {
				t.Errorf("Parse(%q) is %d, %d; want %d, %d", text, n, e, want, wantE)
			}
		}
		low(fmt.Sprintf("%d", d), d*60, true)
		low(fmt.Sprintf("%d:%02d", d, s), d*60+s, s < 60)
		low(fmt.Sprintf("%d:%d:%d", d, m, s), d*3600+m*60+s, m < 60 && s < 60)
		low(fmt.Sprintf("%d-%d", d, h), d*86400+h*3600, h < 24)
		low(fmt.Sprintf("%d-%03d:%d", d, h, m), d*86400+h*3600+m*60, h < 24 && m < 60)
		low(fmt.Sprintf("%d-%d:%d:%05d", d, h, m, s), d*86400+h*3600+m*60+s, h < 24 && m < 60 && s < 60)
	}
}

func TestPrint(t *testing.T) {
	for _, x := range []struct {
		n    int
		text string
		e    api.Errno
	}{
		{1, "00:00:01", api.OK}, {59, "00:00:59", api.OK}, {60, "00:01:00", api.OK}, {5400, "01:30:00", api.OK}, {36610, "10:10:10", api.OK},
		{86399, "23:59:59", api.OK}, {86400, "1-00:00:00", api.OK}, {93600, "1-02:00:00", api.OK}, {864000 + 3661, "10-01:01:01", api.OK},
		{api.MaxLimit, "12427-13:37:04", api.OK},
		{0, "", api.ErrArg}, {-1, "", api.ErrArg}, {api.MaxLimit + 1, "", api.ErrArg}, {api.MinInt, "", api.ErrArg}, {api.MaxInt, "", api.ErrArg},
	} {
		if text, e := clock.Print(x.n); text != x.text || e != x.e {
			t.Error(x, text, e)
		}
	}
}

func TestWhatIsPrintedIsReadBack(t *testing.T) {
	for n := 1; n <= api.MaxLimit; n += 1 + n/37 {
		text, e := clock.Print(n)
		if e != api.OK {
			t.Fatal(n, e)
		}
		if back, e := clock.Parse(text); back != n || e != api.OK {
			t.Fatal(n, text, back, e)
		}
	}
}

func TestMinutes(t *testing.T) {
	for _, x := range [][2]int{{-1, 0}, {api.MinInt, 0}, {0, 0}, {1, 1}, {59, 1}, {60, 1}, {61, 2}, {119, 2}, {120, 2}, {121, 3}, {api.MaxLimit, 17895698}, {api.MaxInt, 153722867280912931}, {api.MaxInt - 7, 153722867280912930}, {api.MaxInt - 8, 153722867280912930}} {
		if n := clock.Minutes(x[0]); n != x[1] {
			t.Error(x, n)
		}
	}
}
