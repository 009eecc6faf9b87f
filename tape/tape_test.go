package tape_test

import (
	"bytes"
	"math/rand"
	"slices"
	"strings"
	"testing"

	"ganger/api"
	"ganger/crate"
	"ganger/spool"
	"ganger/tape"
)

func file(t *testing.T, room int) *spool.Spool {
	t.Helper()
	s, e := spool.New(room)
	if e != api.OK {
		t.Fatal(e)
	}
	return s
}

func open(t *testing.T, s *spool.Spool) *tape.Tape {
	t.Helper()
	x, e := tape.Open(s)
	if e != api.OK || x == nil {
		t.Fatal(x, e)
	}
	return x
}

func wantE(t *testing.T, got, want api.Errno) {
	t.Helper()
	if got != want {
		t.Errorf("%d; want %d", got, want)
	}
}

func equal(a, b [][]byte) bool {
	return slices.EqualFunc(a, b, bytes.Equal)
}

func records(l ...string) [][]byte {
	all := [][]byte{}
	for _, r := range l {
		all = append(all, []byte(r))
	}
	return all
}

func want(t *testing.T, x *tape.Tape, l ...string) {
	t.Helper()
	if !equal(x.Records(), records(l...)) || x.Len() != len(l) {
		t.Errorf("%q, %d; want %q", x.Records(), x.Len(), l)
	}
}

// size is that of a crate with a body of n bytes.
func size(n int) int {
	return n + 7
}

func TestNil(t *testing.T) {
	if x, e := tape.Open(nil); x != nil || e != api.ErrNil {
		t.Error(x, e)
	}
	var x *tape.Tape
	wantE(t, x.Add(make([]byte, 9000)), api.ErrNil)
	wantE(t, x.Pack(nil), api.ErrNil)
	want(t, x)
}

func TestExample(t *testing.T) {
	s := file(t, 1000)
	x := open(t, s)
	wantE(t, x.Add([]byte("a")), api.OK)
	wantE(t, x.Add([]byte("b")), api.OK)
	want(t, x, "a", "b")
	s.Off(1)
	wantE(t, x.Add([]byte("c")), api.ErrLost)
	want(t, x)
	s.Crash(3)
	want(t, open(t, s), "a", "b")
	if s.Len() != 2*size(1) {
		t.Error(s.Len())
	}
	x = open(t, s)
	wantE(t, x.Add([]byte("d")), api.OK)
	want(t, x, "a", "b", "d")
	want(t, open(t, s), "a", "b", "d")
}

func TestWhatIsOnTheSpool(t *testing.T) {
	s := file(t, 1000)
	x := open(t, s)
	wantE(t, x.Add([]byte("abc")), api.OK)
	wantE(t, x.Add(nil), api.OK)
	a, _ := crate.Put([]byte("abc"))
	b, _ := crate.Put(nil)
	if !bytes.Equal(s.Bytes(), append(a, b...)) || s.Sure() != s.Len() {
		t.Errorf("%x, %d", s.Bytes(), s.Sure())
	}
	want(t, x, "abc", "")
}

func TestOpenCutsWhatIsNoCrate(t *testing.T) {
	for _, tail := range []string{"", "\x00", "\x00\x00\x00", "x", "\xc5", "\xc5\x00\x01", "\xc5\x00\x00\x00\x00\x00\x00", "\x00\xc5\x00\x00\xd2\x77\x61\xf1"} {
		s := file(t, 1000)
		x := open(t, s)
		x.Add([]byte("a"))
		s.Add([]byte(tail))
		x = open(t, s)
		want(t, x, "a")
		if s.Len() != size(1) || s.Sure() != size(1) {
			t.Errorf("%q: %d, %d", tail, s.Len(), s.Sure())
		}
		wantE(t, x.Add([]byte("b")), api.OK)
		want(t, open(t, s), "a", "b")
	}
}

func TestOpenNeedsThePower(t *testing.T) {
	s := file(t, 1000)
	open(t, s).Add([]byte("a"))
	s.Off(0)
	want(t, open(t, s), "a") // nothing has to be cut
	s.Off(-1)
	s.Add([]byte("xyz"))
	s.Off(0)
	if x, e := tape.Open(s); x != nil || e != api.ErrLost {
		t.Error(x, e)
	}
	if x, e := tape.Open(s); x != nil || e != api.ErrLost {
		t.Error(x, e)
	}
	s.Crash(3)
	s.Off(1)
	want(t, open(t, s), "a")
	wantE(t, s.Sync(), api.ErrLost)
}

func TestAddRefuses(t *testing.T) {
	s := file(t, size(2)+size(3))
	x := open(t, s)
	wantE(t, x.Add(make([]byte, api.MaxRecord+1)), api.ErrLong)
	wantE(t, x.Add(make([]byte, api.MaxRecord)), api.ErrFull)
	wantE(t, x.Add([]byte("ab")), api.OK)
	wantE(t, x.Add([]byte("cdef")), api.ErrFull)
	want(t, x, "ab")
	wantE(t, x.Add([]byte("cde")), api.OK)
	wantE(t, x.Add(nil), api.ErrFull)
	want(t, x, "ab", "cde")
	want(t, open(t, s), "ab", "cde")
	s.Off(0)
	wantE(t, x.Add(make([]byte, api.MaxRecord+1)), api.ErrLong)
	wantE(t, x.Add(nil), api.ErrFull)
	if !s.On() {
		t.Error("nothing was done")
	}
}

func TestAfterErrLostOnlyANewOpenHelps(t *testing.T) {
	for after := range 2 {
		s := file(t, 1000)
		x := open(t, s)
		x.Add([]byte("a"))
		s.Off(after)
		wantE(t, x.Add([]byte("b")), api.ErrLost)
		want(t, x)
		wantE(t, x.Add([]byte("c")), api.ErrLost)
		wantE(t, x.Add(make([]byte, api.MaxRecord+1)), api.ErrLost)
		wantE(t, x.Pack(records("c")), api.ErrLost)
		wantE(t, x.Pack([][]byte{make([]byte, api.MaxRecord+1)}), api.ErrLost)
		want(t, x)
		s.Crash(0)
		y := open(t, s)
		want(t, y, "a")
		wantE(t, y.Add([]byte("d")), api.OK)
		want(t, y, "a", "d")
	}
}

func TestTheGreatestRecord(t *testing.T) {
	s := file(t, 20000)
	x := open(t, s)
	great := strings.Repeat("x", api.MaxRecord)
	wantE(t, x.Add([]byte(great)), api.OK)
	wantE(t, x.Pack(records("a", great)), api.OK)
	want(t, open(t, s), "a", great)
}

func TestPack(t *testing.T) {
	s := file(t, 3*size(1))
	x := open(t, s)
	x.Add([]byte("a"))
	x.Add([]byte("b"))
	wantE(t, x.Pack(records("c", "d", "e")), api.OK)
	want(t, x, "c", "d", "e")
	want(t, open(t, s), "c", "d", "e")
	if s.Len() != 3*size(1) || s.Sure() != s.Len() {
		t.Error(s.Len(), s.Sure())
	}
	wantE(t, x.Pack([][]byte{[]byte("f"), make([]byte, api.MaxRecord+1)}), api.ErrLong)
	want(t, x, "c", "d", "e")
	want(t, open(t, s), "c", "d", "e")
	wantE(t, x.Pack(records("f", "g", "hi", "j")), api.ErrFull)
	want(t, x, "f", "g")
	want(t, open(t, s), "f", "g")
	wantE(t, x.Add([]byte("k")), api.OK)
	want(t, x, "f", "g", "k")
	wantE(t, x.Pack(nil), api.OK)
	want(t, x)
	want(t, open(t, s))
	if s.Len() != 0 {
		t.Error(s.Len())
	}
	wantE(t, x.Add([]byte("l")), api.OK)
	want(t, x, "l")
}

func TestACrashInPackLeavesABeginning(t *testing.T) {
	old, new := []string{"a", "b"}, []string{"c", "d", "e"}
	for after := range 9 {
		for keep := range 12 {
			s := file(t, 1000)
			x := open(t, s)
			for _, r := range old {
				x.Add([]byte(r))
			}
			s.Off(after)
			e := x.Pack(records(new...))
			if (e == api.OK) != (after >= 7) || e != api.OK && e != api.ErrLost {
				t.Error(after, e)
			}
			if e != api.OK {
				want(t, x)
			}
			s.Crash(keep)
			got := open(t, s)
			switch {
			case after == 0:
				want(t, got, old...)
			default: // the cut, and then two operations for each record
				n := min((after-1)/2, 3)
				if after%2 == 0 && n < 3 && keep >= size(1) {
					n++
				}
				want(t, got, new[:n]...)
			}
		}
	}
}

func TestDurability(t *testing.T) {
	r := rand.New(rand.NewSource(40))
	for range 400 {
		s := file(t, 2000)
		x := open(t, s)
		durable := [][]byte{}
		for range 6 {
			s.Off(r.Intn(12))
			var pending []byte
			for {
				b := make([]byte, r.Intn(20))
				r.Read(b)
				if e := x.Add(b); e != api.OK {
					wantE(t, e, api.ErrLost)
					pending = b
					break
				}
				durable = append(durable, b)
			}
			s.Crash(r.Intn(40))
			x = open(t, s)
			got := x.Records()
			if len(got) == len(durable)+1 {
				durable = append(durable, pending)
			}
			if !equal(got, durable) || !equal(open(t, s).Records(), durable) {
				t.Fatalf("%x; want %x", got, durable)
			}
		}
	}
}

func TestResultsAreNewMemory(t *testing.T) {
	s := file(t, 1000)
	x := open(t, s)
	a, b := []byte("abc"), []byte("def")
	x.Add(a)
	a[0] = 'x'
	want(t, x, "abc")
	l := [][]byte{b}
	x.Pack(l)
	b[0] = 'x'
	want(t, x, "def")
	for _, y := range []*tape.Tape{x, open(t, s)} {
		got := y.Records()
		got[0][0] = 'y'
		_ = append(got[0], 1, 2, 3, 4, 5, 6, 7, 8)
		got[0] = nil
		want(t, y, "def")
	}
	if string(b) != "xef" || len(l) != 1 {
		t.Error(l)
	}
	want(t, open(t, file(t, 9)))
}
