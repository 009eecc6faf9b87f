package script_test

import (
	"math/rand"
	"reflect"
	"strings"
	"testing"

	"ganger/api"
	"ganger/script"
)

func plain() api.Spec {
	return api.Spec{Name: "job", Account: "root", Partition: "main", QOS: "normal", Size: 1, Limit: 3600}
}

// with returns the plain spec, changed.
func with(change func(*api.Spec)) api.Spec {
	s := plain()
	change(&s)
	return s
}

func TestName(t *testing.T) {
	for _, s := range []string{
		"a", "z", "A", "Z", "0", "9", "-", "_", ".", "job-1_2.x", strings.Repeat("x", 32), strings.Repeat("é", 32), strings.Repeat("\U0010ffff", 32),
		"\u00a1", "\u00e9", "\ufffd", "a\ufffdb", "\U0010ffff", "\ue000", "\ud7ff", "--", "..",
	} {
		if !script.Name(s) {
			t.Errorf("%q is a name", s)
		}
	}
	for _, s := range []string{
		"", strings.Repeat("x", 33), strings.Repeat("é", 33), " ", "a b", "a\n", "a=b", "a/b", "a:b", "@", "[", "`", "{", ",", "\x00", "\x7f", "\u0080", "\u00a0", "a\u00a0",
		"\x80", "a\xff", "\xc3", "é\xc3", "\xc0\x80", "\xc1\xa1", "\xe0\x83\xa9", "\xed\xa0\x80", "\xed\xbf\xbf", "\xf4\x90\x80\x80", "\xf0\x82\x82\xac", "\xe2\x82", "\xf8\x88\x80\x80\x80",
	} {
		if script.Name(s) {
			t.Errorf("%q is no name", s)
		}
	}
	for r := rune(1); r < 300; r++ {
		letter := r >= 'a' && r <= 'z' || r >= 'A' && r <= 'Z' || r >= '0' && r <= '9'
		if script.Name("x"+string(r)) != (letter || strings.ContainsRune("-_.", r) || r > 160) {
			t.Errorf("rune %d", r)
		}
	}
}

func goodSpecs() []api.Spec {
	return []api.Spec{
		plain(),
		with(func(s *api.Spec) { s.Size = 1024 }),
		with(func(s *api.Spec) { s.Limit = 1 }),
		with(func(s *api.Spec) { s.Limit = api.MaxLimit }),
		with(func(s *api.Spec) { s.Nice = -10000 }),
		with(func(s *api.Spec) { s.Nice = 10000 }),
		with(func(s *api.Spec) { s.Begin = api.MaxTime }),
		with(func(s *api.Spec) { s.Hold = true }),
		with(func(s *api.Spec) { s.Requeue = true }),
		with(func(s *api.Spec) { s.Array = api.Array{L: []int{0, 4, 5, 6, 1000}, Most: 1000} }),
		with(func(s *api.Spec) { s.Array = api.Array{L: []int{}} }),
		with(func(s *api.Spec) { s.Depend = api.Depend{L: []api.Need{{Kind: 5}}} }),
		with(func(s *api.Spec) {
			s.Depend = api.Depend{Any: true, L: []api.Need{{Kind: 1, Jobs: []uint32{7}}, {Kind: 2, Jobs: []uint32{8, 9}}}}
		}),
		with(func(s *api.Spec) { s.Run = "x#" }),
		with(func(s *api.Spec) { s.Run = "\n#SBATCH --size=7\n" }),
		with(func(s *api.Spec) { s.Run = "\x00\xff no line feed" }),
		with(func(s *api.Spec) { s.Name, s.Account, s.Partition, s.QOS = "é", "b", "c", "d" }),
	}
}

func badSpecs() []api.Spec {
	return []api.Spec{
		{},
		with(func(s *api.Spec) { s.Name = "" }),
		with(func(s *api.Spec) { s.Name = "a b" }),
		with(func(s *api.Spec) { s.Account = "" }),
		with(func(s *api.Spec) { s.Partition = "\xff" }),
		with(func(s *api.Spec) { s.QOS = strings.Repeat("q", 33) }),
		with(func(s *api.Spec) { s.Size = 0 }),
		with(func(s *api.Spec) { s.Size = 1025 }),
		with(func(s *api.Spec) { s.Size = api.MinInt }),
		with(func(s *api.Spec) { s.Limit = 0 }),
		with(func(s *api.Spec) { s.Limit = api.MaxLimit + 1 }),
		with(func(s *api.Spec) { s.Array = api.Array{Most: 1} }),
		with(func(s *api.Spec) { s.Array = api.Array{L: []int{2, 1}} }),
		with(func(s *api.Spec) { s.Array = api.Array{L: []int{1001}} }),
		with(func(s *api.Spec) { s.Array = api.Array{L: []int{1}, Most: -1} }),
		with(func(s *api.Spec) { s.Depend = api.Depend{Any: true} }),
		with(func(s *api.Spec) { s.Depend = api.Depend{L: []api.Need{{Kind: 1}}} }),
		with(func(s *api.Spec) { s.Nice = -10001 }),
		with(func(s *api.Spec) { s.Nice = 10001 }),
		with(func(s *api.Spec) { s.Begin = -1 }),
		with(func(s *api.Spec) { s.Begin = api.MaxTime + 1 }),
		with(func(s *api.Spec) { s.Run = "#" }),
		with(func(s *api.Spec) { s.Run = "#x\n" }),
		with(func(s *api.Spec) { s.Run = strings.Repeat("x", api.MaxScript+1) }),
	}
}

func TestCheck(t *testing.T) {
	for _, s := range goodSpecs() {
		if e := script.Check(s); e != api.OK {
			t.Errorf("%+v: %d", s, e)
		}
	}
	if e := script.Check(with(func(s *api.Spec) { s.Run = strings.Repeat("x", api.MaxScript) })); e != api.OK {
		t.Error(e)
	}
	for _, s := range badSpecs() {
		if e := script.Check(s); e != api.ErrValue {
			t.Errorf("%+v: %d", s, e)
		}
		if text, e := script.Print(s); text != "" || e != api.ErrValue {
			t.Errorf("%+v: %q, %d", s, text, e)
		}
	}
}

const always = "#!job\n#SBATCH --job-name=job\n#SBATCH --account=root\n#SBATCH --partition=main\n#SBATCH --qos=normal\n#SBATCH --size=1\n#SBATCH --time=01:00:00\n"

func TestPrint(t *testing.T) {
	full := api.Spec{
		Name: "n", Account: "a", Partition: "p", QOS: "q", Size: 12, Limit: 93600,
		Array: api.Array{L: []int{1, 2, 9}, Most: 2}, Depend: api.Depend{L: []api.Need{{Kind: 2, Jobs: []uint32{3}}}},
		Nice: -5, Begin: 1000000000000, Hold: true, Requeue: true, Run: "echo\n",
	}
	for _, x := range []struct {
		s    api.Spec
		text string
	}{
		{plain(), always},
		{full, "#!job\n#SBATCH --job-name=n\n#SBATCH --account=a\n#SBATCH --partition=p\n#SBATCH --qos=q\n#SBATCH --size=12\n#SBATCH --time=1-02:00:00\n" +
			"#SBATCH --array=1-2,9%2\n#SBATCH --dependency=afterok:3\n#SBATCH --nice=-5\n#SBATCH --begin=1000000000000\n#SBATCH --hold\n#SBATCH --requeue\necho\n"},
		{with(func(s *api.Spec) { s.Nice = 7 }), always + "#SBATCH --nice=7\n"},
		{with(func(s *api.Spec) { s.Begin = 7 }), always + "#SBATCH --begin=7\n"},
		{with(func(s *api.Spec) { s.Hold = true }), always + "#SBATCH --hold\n"},
		{with(func(s *api.Spec) { s.Requeue = true }), always + "#SBATCH --requeue\n"},
		{with(func(s *api.Spec) { s.Array = api.Array{L: []int{0}} }), always + "#SBATCH --array=0\n"},
		{with(func(s *api.Spec) { s.Depend = api.Depend{L: []api.Need{{Kind: 5}}} }), always + "#SBATCH --dependency=singleton\n"},
		{with(func(s *api.Spec) { s.Run = "x" }), always + "x"},
	} {
		if text, e := script.Print(x.s); text != x.text || e != api.OK {
			t.Errorf("%q, %d; want %q", text, e, x.text)
		}
	}
}

func TestPrintIsNotTooLong(t *testing.T) {
	s := with(func(s *api.Spec) { s.Run = strings.Repeat("x", api.MaxScript-len(always)) })
	text, e := script.Print(s)
	if len(text) != api.MaxScript || e != api.OK {
		t.Error(len(text), e)
	}
	if back, line, e := script.Parse(text); e != api.OK || line != 0 || !reflect.DeepEqual(back, s) {
		t.Error(line, e)
	}
	s.Run += "x"
	if text, e := script.Print(s); text != "" || e != api.ErrLong {
		t.Error(len(text), e)
	}
	if back, line, e := script.Parse(always + s.Run); !reflect.DeepEqual(back, api.Spec{}) || line != 1 || e != api.ErrText {
		t.Error(line, e)
	}
}

func TestParse(t *testing.T) {
	for _, x := range []struct {
		text string
		s    api.Spec
	}{
		{"#!job\n", plain()},
		{"#!job\n#SBATCH --size=4\n#SBATCH --time=1:30\nrun\n", with(func(s *api.Spec) { s.Size, s.Limit, s.Run = 4, 90, "run\n" })},
		{"#!job\nrun", with(func(s *api.Spec) { s.Run = "run" })},
		{"#!job\n\n#SBATCH --size=x\n", with(func(s *api.Spec) { s.Run = "\n#SBATCH --size=x\n" })},
		{"#!job\n #SBATCH --size=x", with(func(s *api.Spec) { s.Run = " #SBATCH --size=x" })},
		{"#!job\n# any\xff thing\n#\n#sbatch --size=x\n#SBATC --size=x\n##SBATCH --size=x\n# SBATCH\n#!job\n#SBATCH --size=2\nx#", with(func(s *api.Spec) { s.Size, s.Run = 2, "x#" })},
		{"#!job\n#SBATCH --job-name=é\n#SBATCH --account=a\n#SBATCH --partition=b\n#SBATCH --qos=c\n", with(func(s *api.Spec) { s.Name, s.Account, s.Partition, s.QOS = "é", "a", "b", "c" })},
		{"#!job\n#SBATCH --requeue\n#SBATCH --hold\n#SBATCH --qos=c\n", with(func(s *api.Spec) { s.Requeue, s.Hold, s.QOS = true, true, "c" })},
		{"#!job\n#SBATCH --size=0001024\n#SBATCH --nice=-0010000\n#SBATCH --begin=1099511627776\n", with(func(s *api.Spec) { s.Size, s.Nice, s.Begin = 1024, -10000, api.MaxTime })},
		{"#!job\n#SBATCH --nice=10000\n#SBATCH --begin=0000000000000\n", with(func(s *api.Spec) { s.Nice = 10000 })},
		{"#!job\n#SBATCH --nice=-0\n", plain()},
		{"#!job\n#SBATCH --dependency=\n", plain()},
		{"#!job\n#SBATCH --array=9,1-3:2%4\n#SBATCH --dependency=after:1?singleton\n", with(func(s *api.Spec) {
			s.Array = api.Array{L: []int{1, 3, 9}, Most: 4}
			s.Depend = api.Depend{Any: true, L: []api.Need{{Kind: 1, Jobs: []uint32{1}}, {Kind: 5}}}
		})},
		{"#!job\n#SBATCH --time=298261:37:04\n", with(func(s *api.Spec) { s.Limit = api.MaxLimit })},
	} {
		if s, line, e := script.Parse(x.text); !reflect.DeepEqual(s, x.s) || line != 0 || e != api.OK {
			t.Errorf("Parse(%q) is %+v, %d, %d", x.text, s, line, e)
		}
	}
}

func TestParseRefusesAnOption(t *testing.T) {
	for _, x := range []struct {
		option string
		e      api.Errno
	}{
		{"size=x", api.ErrText}, {"size=", api.ErrText}, {"size", api.ErrText}, {"size=00000001", api.ErrText}, {"size=-1", api.ErrText}, {"size=+1", api.ErrText}, {"size= 1", api.ErrText}, {"size=1 ", api.ErrText}, {"size=１", api.ErrText}, {"size=1\r", api.ErrText},
		{"size=0", api.ErrValue}, {"size=1025", api.ErrValue}, {"size=9999999", api.ErrValue},
		{"nice=", api.ErrText}, {"nice=-", api.ErrText}, {"nice=--1", api.ErrText}, {"nice=00000001", api.ErrText}, {"nice=-00000001", api.ErrText}, {"nice=1-", api.ErrText}, {"nice", api.ErrText},
		{"nice=10001", api.ErrValue}, {"nice=-10001", api.ErrValue}, {"nice=-9999999", api.ErrValue},
		{"begin=", api.ErrText}, {"begin=-1", api.ErrText}, {"begin=00000000000001", api.ErrText}, {"begin=x", api.ErrText}, {"begin", api.ErrText},
		{"begin=1099511627777", api.ErrValue}, {"begin=9999999999999", api.ErrValue},
		{"time=", api.ErrText}, {"time=x", api.ErrText}, {"time=1:", api.ErrText}, {"time", api.ErrText}, {"time=0", api.ErrValue}, {"time=1:60", api.ErrValue}, {"time=999999:0:0", api.ErrValue},
		{"array=", api.ErrText}, {"array=1,", api.ErrText}, {"array", api.ErrText}, {"array=3-1", api.ErrValue}, {"array=1001", api.ErrValue}, {"array=1%0", api.ErrValue},
		{"dependency=x", api.ErrText}, {"dependency=after", api.ErrText}, {"dependency", api.ErrText}, {"dependency=after:0", api.ErrValue},
		{"job-name=", api.ErrValue}, {"job-name=a b", api.ErrValue}, {"job-name=a=b", api.ErrValue}, {"job-name=\xff", api.ErrValue}, {"job-name= a", api.ErrValue}, {"job-name=" + strings.Repeat("x", 33), api.ErrValue}, {"job-name", api.ErrText},
		{"account=", api.ErrValue}, {"account=\u00a0", api.ErrValue}, {"account", api.ErrText}, {"partition=/", api.ErrValue}, {"partition", api.ErrText}, {"qos=?", api.ErrValue}, {"qos", api.ErrText},
		{"hold=", api.ErrText}, {"hold=1", api.ErrText}, {"requeue=", api.ErrText}, {"requeue=true", api.ErrText}, {"hold ", api.ErrText},
		{"", api.ErrText}, {"=", api.ErrText}, {"=1", api.ErrText}, {"Size=1", api.ErrText}, {"size =1", api.ErrText}, {" size=1", api.ErrText}, {"limit=1", api.ErrText}, {"run=x", api.ErrText}, {"name=x", api.ErrText},
	} {
		line := "#SBATCH --" + x.option + "\n"
		for _, text := range []string{"#!job\n" + line, "#!job\n" + line + "#SBATCH --x\nrun", "#!job\n" + line + "run"} {
			if s, n, e := script.Parse(text); !reflect.DeepEqual(s, api.Spec{}) || n != 2 || e != x.e {
				t.Errorf("Parse(%q) is %+v, %d, %d; want 2, %d", text, s, n, e, x.e)
			}
		}
		if _, n, e := script.Parse("#!job\n#\n#SBATCH --hold\n#SBATCH --size=3\n# x\n#SBATCH --x" + line + line); n != 6 || e != api.ErrText {
			t.Error(n, e)
		}
	}
}

func TestParseRefusesLines(t *testing.T) {
	for _, x := range []struct {
		text string
		line int
		e    api.Errno
	}{
		{"", 1, api.ErrText}, {"#!job", 1, api.ErrText}, {"#!jo\n", 1, api.ErrText}, {"#!job \n", 1, api.ErrText}, {" #!job\n", 1, api.ErrText}, {"\n#!job\n", 1, api.ErrText}, {"run\n", 1, api.ErrText}, {"#!job\r\n", 1, api.ErrText}, {"#!Job\n", 1, api.ErrText},
		{"#!job\n#", 2, api.ErrText}, {"#!job\n# comment", 2, api.ErrText}, {"#!job\n#SBATCH --hold", 2, api.ErrText}, {"#!job\n#SBATCH --size=0", 2, api.ErrText}, {"#!job\n#\n#SBATCH", 3, api.ErrText},
		{"#!job\n#SBATCH\n", 2, api.ErrText}, {"#!job\n#SBATCH \n", 2, api.ErrText}, {"#!job\n#SBATCH -\n", 2, api.ErrText}, {"#!job\n#SBATCH hold\n", 2, api.ErrText}, {"#!job\n#SBATCH  --hold\n", 2, api.ErrText}, {"#!job\n#SBATCH--hold\n", 2, api.ErrText}, {"#!job\n#SBATCHES\n", 2, api.ErrText}, {"#!job\n#SBATCH\t--hold\n", 2, api.ErrText},
		{"#!job\n#SBATCH --hold\n#SBATCH --hold\n", 3, api.ErrText}, {"#!job\n#SBATCH --size=1\n#x\n#SBATCH --size=1\n", 4, api.ErrText}, {"#!job\n#SBATCH --size=1\n#SBATCH --size=0\n", 3, api.ErrText}, {"#!job\n#SBATCH --qos=a\n#SBATCH --qos=\n", 3, api.ErrText}, {"#!job\n#SBATCH --dependency=\n#SBATCH --dependency=\n", 3, api.ErrText},
		{"#!job\n#SBATCH --size=0\n#SBATCH --size=x\n", 2, api.ErrValue}, {"#!job\n#SBATCH --size=x\n#SBATCH --size=0\n", 2, api.ErrText}, {"#!job\n#SBATCH --nice=1\n#SBATCH --size=2000\n#SBATCH --x\n", 3, api.ErrValue},
	} {
		if s, n, e := script.Parse(x.text); !reflect.DeepEqual(s, api.Spec{}) || n != x.line || e != x.e {
			t.Errorf("Parse(%q) is %+v, %d, %d; want %d, %d", x.text, s, n, e, x.line, x.e)
		}
	}
	long := "#!job\n#SBATCH --x\n" + strings.Repeat("x", api.MaxScript)
	if _, n, e := script.Parse(long[:api.MaxScript]); n != 2 || e != api.ErrText {
		t.Error(n, e)
	}
	if _, n, e := script.Parse(long[:api.MaxScript+1]); n != 1 || e != api.ErrText {
		t.Error(n, e)
	}
}

func TestWhatIsPrintedIsReadBack(t *testing.T) {
	for _, s := range goodSpecs() {
		text, e := script.Print(s)
		if e != api.OK {
			t.Fatal(s, e)
		}
		back, line, e := script.Parse(text)
		if e != api.OK || line != 0 {
			t.Fatalf("%q: %d, %d", text, line, e)
		}
		if len(s.Array.L) == 0 {
			s.Array.L = back.Array.L
		}
		if !reflect.DeepEqual(back, s) {
			t.Errorf("%+v; want %+v", back, s)
		}
	}
}

func TestWhatIsReadIsValid(t *testing.T) {
	r := rand.New(rand.NewSource(18))
	lines := []string{
		"#SBATCH --size=7", "#SBATCH --time=90", "#SBATCH --array=1-3,7%2", "#SBATCH --dependency=after:1", "#SBATCH --nice=-7", "#SBATCH --begin=9", "#SBATCH --hold", "#SBATCH --requeue",
		"#SBATCH --job-name=x", "#SBATCH --qos=é", "#SBATCH --account=b", "#SBATCH --partition=p", "# x", "#", "run", "", "#SBATCH --size=0", "#SBATCH --x",
	}
	read := 0
	for range 5000 {
		text := "#!job\n"
		for range r.Intn(6) {
			text += lines[r.Intn(len(lines))] + "\n"
		}
		s, line, e := script.Parse(text)
		if e != api.OK {
			if line < 2 || !reflect.DeepEqual(s, api.Spec{}) {
				t.Fatal(text, s, line, e)
			}
			continue
		}
		read++
		if script.Check(s) != api.OK {
			t.Fatalf("%q: %+v", text, s)
		}
		printed, e := script.Print(s)
		if e != api.OK {
			t.Fatal(e)
		}
		if again, _, e := script.Parse(printed); e != api.OK || !reflect.DeepEqual(again, s) {
			t.Fatalf("%q: %+v; want %+v", printed, again, s)
		}
	}
	if read < 500 {
		t.Error(read)
	}
}

func TestResultsAreNewMemory(t *testing.T) {
	text := "#!job\n#SBATCH --array=1-3\n#SBATCH --dependency=after:1:2\n"
	a, _, _ := script.Parse(text)
	a.Array.L[0], a.Depend.L[0].Jobs[0] = 77, 77
	b, _, _ := script.Parse(text)
	if b.Array.L[0] != 1 || b.Depend.L[0].Jobs[0] != 1 {
		t.Error(b)
	}
}
