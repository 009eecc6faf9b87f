package spool_test

import (
	"bytes"
	"math/rand"
	"testing"

	"ganger/api"
	"ganger/spool"
)

func file(t *testing.T, room int) *spool.Spool {
	t.Helper()
	s, e := spool.New(room)
	if e != api.OK || s == nil {
		t.Fatal(room, s, e)
	}
	return s
}

func want(t *testing.T, s *spool.Spool, text string, sure int, on bool) {
	t.Helper()
	if string(s.Bytes()) != text || s.Len() != len(text) || s.Sure() != sure || s.On() != on {
		t.Errorf("%q, %d, %d, %v; want %q, %d, %v", s.Bytes(), s.Len(), s.Sure(), s.On(), text, sure, on)
	}
}

func wantE(t *testing.T, got, want api.Errno) {
	t.Helper()
	if got != want {
		t.Errorf("%d; want %d", got, want)
	}
}

func TestNew(t *testing.T) {
	for _, room := range []int{1, 2, api.MaxSpool} {
		want(t, file(t, room), "", 0, true)
	}
	for _, room := range []int{0, -1, api.MaxSpool + 1, api.MinInt, api.MaxInt} {
		if s, e := spool.New(room); s != nil || e != api.ErrArg {
			t.Error(room, s, e)
		}
	}
}

func TestNil(t *testing.T) {
	var s *spool.Spool
	wantE(t, s.Add(nil), api.ErrNil)
	wantE(t, s.Sync(), api.ErrNil)
	wantE(t, s.Cut(-1), api.ErrNil)
	s.Off(0)
	s.Crash(0)
	want(t, s, "", 0, false)
}

func TestExample(t *testing.T) {
	s := file(t, 9)
	wantE(t, s.Add([]byte("ab")), api.OK)
	wantE(t, s.Sync(), api.OK)
	wantE(t, s.Add([]byte("cd")), api.OK)
	want(t, s, "abcd", 2, true)
	s.Crash(1)
	want(t, s, "abc", 3, true)
	s.Off(1)
	wantE(t, s.Add([]byte("x")), api.OK)
	want(t, s, "abcx", 3, true)
	wantE(t, s.Sync(), api.ErrLost)
	want(t, s, "", 0, false)
	s.Crash(5)
	want(t, s, "abcx", 4, true)
}

func TestRoom(t *testing.T) {
	s := file(t, 3)
	wantE(t, s.Add([]byte("abcd")), api.ErrFull)
	wantE(t, s.Add([]byte("ab")), api.OK)
	wantE(t, s.Add([]byte("cd")), api.ErrFull)
	wantE(t, s.Add(nil), api.OK)
	wantE(t, s.Add([]byte("c")), api.OK)
	wantE(t, s.Add([]byte("d")), api.ErrFull)
	wantE(t, s.Add(nil), api.OK)
	want(t, s, "abc", 0, true)
	wantE(t, s.Cut(1), api.OK)
	wantE(t, s.Add([]byte("xyz")), api.ErrFull)
	wantE(t, s.Add([]byte("xy")), api.OK)
	want(t, s, "axy", 1, true)
	s.Crash(0)
	wantE(t, s.Add([]byte("123")), api.ErrFull)
	wantE(t, s.Add([]byte("12")), api.OK)
	want(t, s, "a12", 1, true)
}

func TestTheGreatestRoom(t *testing.T) {
	s := file(t, api.MaxSpool)
	for range api.MaxSpool / 256 {
		wantE(t, s.Add(make([]byte, 256)), api.OK)
	}
	wantE(t, s.Add([]byte{1}), api.ErrFull)
	if s.Len() != api.MaxSpool {
		t.Error(s.Len())
	}
}

func TestOperationsThatFailDoNotCount(t *testing.T) {
	s := file(t, 3)
	s.Off(2)
	wantE(t, s.Add([]byte("abcd")), api.ErrFull)
	wantE(t, s.Cut(1), api.ErrArg)
	wantE(t, s.Cut(-1), api.ErrArg)
	wantE(t, s.Add([]byte("a")), api.OK)
	wantE(t, s.Add([]byte("abc")), api.ErrFull)
	wantE(t, s.Sync(), api.OK)
	wantE(t, s.Add([]byte("abc")), api.ErrFull)
	wantE(t, s.Cut(2), api.ErrArg)
	want(t, s, "a", 1, true)
	wantE(t, s.Add([]byte("b")), api.ErrLost)
	want(t, s, "", 0, false)
	wantE(t, s.Add([]byte("abcd")), api.ErrLost)
	wantE(t, s.Add(nil), api.ErrLost)
	wantE(t, s.Sync(), api.ErrLost)
	wantE(t, s.Cut(-1), api.ErrLost)
	wantE(t, s.Cut(0), api.ErrLost)
	s.Crash(9)
	want(t, s, "a", 1, true)
}

func TestEachOperationCounts(t *testing.T) {
	operations := []func(s *spool.Spool) api.Errno{
		func(s *spool.Spool) api.Errno { return s.Add([]byte("z")) },
		func(s *spool.Spool) api.Errno { return s.Add(nil) },
		func(s *spool.Spool) api.Errno { return s.Sync() },
		func(s *spool.Spool) api.Errno { return s.Cut(1) },
	}
	for i, do := range operations {
		for j, last := range operations {
			for after := range 3 {
				s := file(t, 9)
				s.Add([]byte("ab"))
				s.Off(after)
				for range after {
					wantE(t, do(s), api.OK)
				}
				before, sure := string(s.Bytes()), s.Sure()
				if e := last(s); e != api.ErrLost || s.On() {
					t.Error(i, j, after, e)
				}
				s.Crash(99)
				want(t, s, before, len(before), true)
				if sure > len(before) {
					t.Error(sure)
				}
				for range 9 {
					wantE(t, s.Sync(), api.OK)
				}
			}
		}
	}
}

func TestOff(t *testing.T) {
	s := file(t, 9)
	s.Off(0)
	want(t, s, "", 0, true)
	s.Off(-1)
	for range 5 {
		wantE(t, s.Sync(), api.OK)
	}
	s.Off(api.MinInt)
	wantE(t, s.Sync(), api.OK)
	s.Off(api.MaxInt)
	wantE(t, s.Sync(), api.OK)
	s.Off(0)
	s.Off(1)
	wantE(t, s.Sync(), api.OK)
	wantE(t, s.Sync(), api.ErrLost)
	s.Off(-1)
	want(t, s, "", 0, false)
	wantE(t, s.Sync(), api.ErrLost)
	s.Off(5)
	wantE(t, s.Sync(), api.ErrLost)
	s.Off(0)
	s.Crash(0)
	for range 9 {
		wantE(t, s.Sync(), api.OK)
	}
	s.Off(3)
	s.Crash(0)
	for range 9 {
		wantE(t, s.Add([]byte("x")), api.OK)
	}
}

func TestCrash(t *testing.T) {
	for _, x := range []struct {
		keep int
		text string
	}{{0, "ab"}, {1, "abc"}, {2, "abcd"}, {3, "abcde"}, {4, "abcde"}, {api.MaxInt, "abcde"}, {-1, "ab"}, {api.MinInt, "ab"}} {
		for _, off := range []bool{true, false} {
			s := file(t, 9)
			s.Add([]byte("ab"))
			s.Sync()
			s.Add([]byte("cd"))
			s.Add([]byte("e"))
			if off {
				s.Off(0)
				wantE(t, s.Sync(), api.ErrLost)
			}
			s.Crash(x.keep)
			want(t, s, x.text, len(x.text), true)
			wantE(t, s.Add([]byte("!")), api.OK)
			want(t, s, x.text+"!", len(x.text), true)
			s.Crash(0)
			want(t, s, x.text, len(x.text), true)
		}
	}
}

func TestCut(t *testing.T) {
	for n := -1; n <= 5; n++ {
		s := file(t, 9)
		s.Add([]byte("ab"))
		s.Sync()
		s.Add([]byte("cd"))
		if n < 0 || n > 4 {
			wantE(t, s.Cut(n), api.ErrArg)
			want(t, s, "abcd", 2, true)
			continue
		}
		wantE(t, s.Cut(n), api.OK)
		want(t, s, "abcd"[:n], n, true)
		s.Crash(0)
		want(t, s, "abcd"[:n], n, true)
	}
	s := file(t, 9)
	for _, n := range []int{api.MinInt, api.MaxInt, 1} {
		wantE(t, s.Cut(n), api.ErrArg)
	}
	wantE(t, s.Cut(0), api.OK)
}

func TestBytesAreCopies(t *testing.T) {
	s := file(t, 99)
	given := []byte("abc")
	s.Add(given)
	given[0] = 'x'
	first := s.Bytes()
	first[1] = 'y'
	_ = append(first, "0123456789"...)
	want(t, s, "abc", 0, true)
	first = s.Bytes()
	s.Cut(1)
	s.Add([]byte("zz"))
	if string(first) != "abc" {
		t.Errorf("%q", first)
	}
	_ = append(s.Bytes()[:1], 'q')
	want(t, s, "azz", 1, true)
	want(t, file(t, 9), "", 0, true)
}

// model is a file as the chapter tells it.
type model struct {
	room, sure, left int
	data             []byte
	on               bool
}

func (m *model) operate(f func()) api.Errno {
	if m.left == 0 {
		m.on = false
		return api.ErrLost
	}
	m.left--
	f()
	return api.OK
}

func (m *model) add(b []byte) api.Errno {
	switch {
	case !m.on:
		return api.ErrLost
	case len(m.data)+len(b) > m.room:
		return api.ErrFull
	}
	return m.operate(func() { m.data = append(bytes.Clone(m.data), b...) })
}

func (m *model) sync() api.Errno {
	if !m.on {
		return api.ErrLost
	}
	return m.operate(func() { m.sure = len(m.data) })
}

func (m *model) cut(n int) api.Errno {
	switch {
	case !m.on:
		return api.ErrLost
	case n < 0 || n > len(m.data):
		return api.ErrArg
	}
	return m.operate(func() { m.data, m.sure = bytes.Clone(m.data[:n]), n })
}

func (m *model) crash(keep int) {
	n := min(m.sure+max(keep, 0), len(m.data))
	m.data, m.sure, m.on, m.left = bytes.Clone(m.data[:n]), n, true, -1
}

func TestLikeTheModel(t *testing.T) {
	r := rand.New(rand.NewSource(39))
	for range 300 {
		s, m := file(t, 20), &model{room: 20, left: -1, on: true}
		for range 60 {
			n := r.Intn(9) - 1
			switch r.Intn(8) {
			case 0, 1, 2:
				b := make([]byte, max(n, 0))
				r.Read(b)
				wantE(t, s.Add(b), m.add(b))
			case 3, 4:
				wantE(t, s.Sync(), m.sync())
			case 5:
				wantE(t, s.Cut(n), m.cut(n))
			case 6:
				s.Off(n)
				m.left = n
			case 7:
				s.Crash(n)
				m.crash(n)
			}
			if m.on {
				want(t, s, string(m.data), m.sure, true)
			} else {
				want(t, s, "", 0, false)
			}
		}
	}
}
