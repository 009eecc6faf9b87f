package rank_test

import (
	"bytes"
	"encoding/binary"
	"math/rand"
	"slices"
	"testing"

	"ganger/api"
	"ganger/rank"
)

func key(prio, time int, id uint32) api.Key {
	return api.Key{Prio: prio, Time: time, ID: id}
}

// some keys, no two alike, whose fields are often the same, or at the ends of their types.
func some() []api.Key {
	l := []api.Key{}
	for _, prio := range []int{api.MinInt, -1, 0, 5, 9, api.MaxInt} {
		for _, time := range []int{api.MinInt, -7, 0, 3, 256, api.MaxInt} {
			for _, id := range []uint32{0, 1, 255, 256, 1<<32 - 1} {
				l = append(l, key(prio, time, id))
			}
		}
	}
	return l
}

// distinct keys: each has its own number.
func distinct(n int, r *rand.Rand) []api.Key {
	l := []api.Key{}
	for _, id := range r.Perm(n) {
		l = append(l, key(r.Intn(4), r.Intn(4), uint32(id)))
	}
	return l
}

// before is the order as the chapter tells it.
func before(a, b api.Key) bool {
	if a.Prio != b.Prio {
		return a.Prio > b.Prio
	}
	if a.Time != b.Time {
		return a.Time < b.Time
	}
	return a.ID < b.ID
}

func TestLessIsTotal(t *testing.T) {
	for _, a := range some() {
		for _, b := range some() {
			if rank.Less(a, b) != before(a, b) {
				t.Errorf("Less(%v, %v) is %v", a, b, rank.Less(a, b))
			}
			if a != b && rank.Less(a, b) == rank.Less(b, a) {
				t.Errorf("of %v and %v not just one comes first", a, b)
			}
		}
	}
}

func TestCheck(t *testing.T) {
	for _, x := range []struct {
		l []api.Key
		e api.Errno
	}{
		{nil, api.OK},
		{[]api.Key{key(1, 1, 0)}, api.OK},
		{[]api.Key{key(9, 8, 2), key(5, 2, 7), key(5, 3, 1)}, api.OK},
		{[]api.Key{key(5, 3, 1), key(5, 3, 2)}, api.OK},
		{[]api.Key{key(5, 3, 2), key(5, 3, 1)}, api.ErrArg},
		{[]api.Key{key(5, 3, 1), key(9, 8, 2)}, api.ErrArg},
		{[]api.Key{key(5, 3, 1), key(5, 2, 2)}, api.ErrArg},
		{[]api.Key{key(9, 3, 1), key(8, 3, 2), key(7, 3, 3), key(7, 2, 4)}, api.ErrArg},
		{[]api.Key{key(9, 8, 2), key(5, 2, 2)}, api.ErrTwice},
		{[]api.Key{key(5, 2, 2), key(5, 2, 2)}, api.ErrTwice},
		{[]api.Key{key(9, 8, 2), key(8, 8, 3), key(5, 2, 2)}, api.ErrTwice},
		// The lists are unsorted as well: ErrTwice comes first.
		{[]api.Key{key(1, 8, 2), key(5, 2, 3), key(5, 2, 2)}, api.ErrTwice},
	} {
		if e := rank.Check(x.l); e != x.e {
			t.Error(x.l, e)
		}
	}
}

func TestSort(t *testing.T) {
	l := []api.Key{key(5, 3, 1), key(9, 8, 2), key(5, 2, 7)}
	given := slices.Clone(l)
	got, e := rank.Sort(l)
	if e != api.OK || !slices.Equal(got, []api.Key{key(9, 8, 2), key(5, 2, 7), key(5, 3, 1)}) {
		t.Error(got, e)
	}
	got[0].ID = 77
	if !slices.Equal(l, given) {
		t.Error("Sort changed its argument:", l)
	}
	if got, e := rank.Sort(nil); len(got) != 0 || e != api.OK {
		t.Error(got, e)
	}
	for _, l := range [][]api.Key{{key(1, 1, 1), key(2, 2, 1)}, {key(1, 1, 1), key(3, 1, 2), key(1, 1, 1)}} {
		if got, e := rank.Sort(l); len(got) != 0 || e != api.ErrTwice {
			t.Error(got, e)
		}
	}
}

func TestSortDoesNotDependOnTheOrder(t *testing.T) {
	r := rand.New(rand.NewSource(3))
	for range 200 {
		l := distinct(r.Intn(20), r)
		want := slices.Clone(l)
		slices.SortFunc(want, func(a, b api.Key) int {
			if before(a, b) {
				return -1
			}
			return 1
		})
		got, e := rank.Sort(l)
		if e != api.OK || !slices.Equal(got, want) || rank.Check(got) != api.OK {
			t.Fatal(l, got, e)
		}
	}
}

func TestPut(t *testing.T) {
	r := rand.New(rand.NewSource(4))
	for range 300 {
		l := distinct(1+r.Intn(12), r)
		ranked, _ := rank.Sort(l[1:])
		kept := slices.Clone(ranked)
		want, _ := rank.Sort(l)
		got, e := rank.Put(ranked, l[0])
		if e != api.OK || !slices.Equal(got, want) {
			t.Fatal(ranked, l[0], got, e)
		}
		for i := range got {
			got[i] = api.Key{}
		}
		if !slices.Equal(ranked, kept) {
			t.Fatal("Put changed its argument")
		}
	}
}

func TestPutUsesNoSpareRoomOfItsArgument(t *testing.T) {
	l := []api.Key{key(9, 0, 1), key(8, 0, 2), key(7, 0, 3)}
	if _, e := rank.Put(l[:1], key(1, 0, 9)); e != api.OK || l[1] != key(8, 0, 2) {
		t.Error(l, e)
	}
}

func TestPutRefuses(t *testing.T) {
	for _, x := range []struct {
		l []api.Key
		k api.Key
		e api.Errno
	}{
		{[]api.Key{key(1, 1, 1)}, key(2, 2, 1), api.ErrTwice},
		{[]api.Key{key(9, 1, 1), key(8, 1, 2), key(7, 1, 3)}, key(7, 1, 3), api.ErrTwice},
		{[]api.Key{key(1, 1, 1), key(2, 2, 2)}, key(2, 2, 2), api.ErrArg},
		{[]api.Key{key(1, 1, 1), key(2, 2, 2)}, key(3, 2, 3), api.ErrArg},
		{[]api.Key{key(3, 1, 1), key(2, 2, 1)}, key(3, 2, 3), api.ErrTwice},
	} {
		if got, e := rank.Put(x.l, x.k); len(got) != 0 || e != x.e {
			t.Error(x, got, e)
		}
	}
	if got, e := rank.Put(nil, key(1, 2, 3)); len(got) != 1 || e != api.OK || got[0] != key(1, 2, 3) {
		t.Error(got, e)
	}
}

func TestDrop(t *testing.T) {
	l := []api.Key{key(9, 8, 2), key(5, 2, 7), key(5, 3, 1)}
	given := slices.Clone(l)
	for _, x := range []struct {
		id   uint32
		want []api.Key
		ok   bool
	}{
		{2, []api.Key{key(5, 2, 7), key(5, 3, 1)}, true},
		{7, []api.Key{key(9, 8, 2), key(5, 3, 1)}, true},
		{1, []api.Key{key(9, 8, 2), key(5, 2, 7)}, true},
		{3, given, false},
		{0, given, false},
	} {
		got, ok := rank.Drop(l, x.id)
		if ok != x.ok || !slices.Equal(got, x.want) {
			t.Error(x, got, ok)
		}
		for i := range got {
			got[i] = api.Key{}
		}
		if !slices.Equal(l, given) {
			t.Fatal("Drop changed its argument, or shares it:", l)
		}
	}
	for _, l := range [][]api.Key{nil, {key(1, 1, 1), key(2, 2, 2)}, {key(2, 1, 1), key(1, 2, 1)}} {
		if got, ok := rank.Drop(l, 1); len(got) != 0 || ok {
			t.Error(l, got, ok)
		}
	}
}

func TestMerge(t *testing.T) {
	r := rand.New(rand.NewSource(5))
	for range 300 {
		l := distinct(r.Intn(14), r)
		cut := r.Intn(len(l) + 1)
		a, _ := rank.Sort(l[:cut])
		b, _ := rank.Sort(l[cut:])
		keptA, keptB := slices.Clone(a), slices.Clone(b)
		want, _ := rank.Sort(l)
		got, e := rank.Merge(a, b)
		if e != api.OK || !slices.Equal(got, want) {
			t.Fatal(a, b, got, e)
		}
		for i := range got {
			got[i] = api.Key{}
		}
		if !slices.Equal(a, keptA) || !slices.Equal(b, keptB) {
			t.Fatal("Merge changed an argument, or shares it")
		}
	}
}

func TestMergeRefuses(t *testing.T) {
	good := []api.Key{key(9, 1, 1), key(8, 1, 2)}
	unsorted := []api.Key{key(1, 1, 5), key(2, 1, 6)}
	twice := []api.Key{key(2, 1, 5), key(1, 1, 5)}
	for _, x := range []struct {
		a, b []api.Key
		e    api.Errno
	}{
		{unsorted, twice, api.ErrArg},
		{twice, unsorted, api.ErrTwice},
		{good, unsorted, api.ErrArg},
		{unsorted, good, api.ErrArg},
		{good, twice, api.ErrTwice},
		{good, good, api.ErrTwice},
		{good, []api.Key{key(7, 7, 2)}, api.ErrTwice},
		{[]api.Key{key(7, 7, 1)}, good, api.ErrTwice},
	} {
		if got, e := rank.Merge(x.a, x.b); len(got) != 0 || e != x.e {
			t.Error(x, got, e)
		}
	}
}

func TestBytes(t *testing.T) {
	for _, a := range some() {
		want := binary.BigEndian.AppendUint64(nil, uint64(1<<63-1)-uint64(a.Prio))
		want = binary.BigEndian.AppendUint64(want, uint64(1<<63)+uint64(a.Time))
		want = binary.BigEndian.AppendUint32(want, a.ID)
		if got := rank.Bytes(a); !bytes.Equal(got, want) {
			t.Errorf("Bytes(%v) is %x; want %x", a, got, want)
		}
		for _, b := range some() {
			if (bytes.Compare(rank.Bytes(a), rank.Bytes(b)) < 0) != before(a, b) {
				t.Errorf("the bytes of %v and %v do not compare as they do", a, b)
			}
		}
	}
	got := rank.Bytes(key(0, 0, 1))
	if !bytes.Equal(got, []byte{0x7f, 255, 255, 255, 255, 255, 255, 255, 0x80, 0, 0, 0, 0, 0, 0, 0, 0, 0, 0, 1}) {
		t.Errorf("%x", got)
	}
}

func TestTop(t *testing.T) {
	l := []api.Key{key(9, 0, 1), key(8, 0, 2), key(7, 0, 3), key(6, 0, 4), key(5, 0, 6)}
	even := func(k api.Key) bool { return k.ID%2 == 0 }
	for _, x := range []struct {
		n     int
		want  []api.Key
		asked []uint32
	}{
		{1, []api.Key{l[1]}, []uint32{1, 2}},
		{2, []api.Key{l[1], l[3]}, []uint32{1, 2, 3, 4}},
		{3, []api.Key{l[1], l[3], l[4]}, []uint32{1, 2, 3, 4, 6}},
		{4, []api.Key{l[1], l[3], l[4]}, []uint32{1, 2, 3, 4, 6}},
		{api.MaxInt, []api.Key{l[1], l[3], l[4]}, []uint32{1, 2, 3, 4, 6}},
		{0, nil, nil},
		{-1, nil, nil},
		{api.MinInt, nil, nil},
	} {
		asked := []uint32{}
		got := rank.Top(l, x.n, func(k api.Key) bool {
			asked = append(asked, k.ID)
			return even(k)
		})
		if !slices.Equal(got, x.want) || !slices.Equal(asked, x.asked) {
			t.Error(x, got, asked)
		}
	}
}

func TestTopKeepsTheOrderOfItsList(t *testing.T) {
	l := []api.Key{key(1, 0, 3), key(9, 0, 1), key(9, 0, 1)}
	got := rank.Top(l, 9, func(api.Key) bool { return true })
	if !slices.Equal(got, l) {
		t.Error(got)
	}
	got[0] = api.Key{}
	if l[0] != key(1, 0, 3) {
		t.Error("Top shares its argument")
	}
}

func TestTopAsksNobodyForNothing(t *testing.T) {
	if got := rank.Top(nil, 3, nil); len(got) != 0 {
		t.Error(got)
	}
	if got := rank.Top([]api.Key{key(1, 1, 1)}, 0, nil); len(got) != 0 {
		t.Error(got)
	}
}

func TestTopDoesNotPanicWithNobodyToAsk(t *testing.T) {
	defer func() {
		if e := recover(); e != nil {
			t.Error(e)
		}
	}()
	rank.Top([]api.Key{key(1, 1, 1)}, 1, nil)
}
