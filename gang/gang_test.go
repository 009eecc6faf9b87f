package gang_test

import (
	"math/rand"
	"slices"
	"testing"

	"ganger/api"
	"ganger/gang"
)

func matrix(t *testing.T, order int) *gang.Matrix {
	t.Helper()
	m, e := gang.New(order)
	if e != api.OK || m == nil {
		t.Fatal(order, m, e)
	}
	return m
}

func cell(id uint32, row, start, order int) api.Cell {
	return api.Cell{ID: id, Row: row, Block: api.Block{Start: start, Order: order}}
}

func place(t *testing.T, m *gang.Matrix, id uint32, order int) {
	t.Helper()
	if _, e := m.Place(id, order); e != api.OK {
		t.Fatal(id, order, e)
	}
}

func TestNew(t *testing.T) {
	for order := 0; order <= api.MaxOrder; order++ {
		m := matrix(t, order)
		if m.Rows() != 0 || m.Active() != 0 || len(m.Cells()) != 0 || len(m.Runs()) != 0 || m.Idle(0) != 1<<order || m.Unify() != 0 {
			t.Error(order)
		}
		m.Turn()
		if m.Active() != 0 {
			t.Error(order)
		}
	}
	for _, order := range []int{-1, api.MaxOrder + 1, api.MinInt, api.MaxInt} {
		if m, e := gang.New(order); m != nil || e != api.ErrArg {
			t.Error(order, m, e)
		}
	}
}

func TestNil(t *testing.T) {
	var m *gang.Matrix
	if c, e := m.Place(0, -1); c != (api.Cell{}) || e != api.ErrNil {
		t.Error(c, e)
	}
	if e := m.Remove(0); e != api.ErrNil {
		t.Error(e)
	}
	m.Turn()
	if m.Unify() != 0 || m.Active() != 0 || m.Rows() != 0 || len(m.Cells()) != 0 || len(m.Runs()) != 0 || m.Idle(0) != 0 {
		t.Error("a nil matrix answers")
	}
}

func TestExample(t *testing.T) {
	m := matrix(t, 2)
	for _, x := range []struct {
		id    uint32
		order int
		want  api.Cell
	}{{1, 1, cell(1, 0, 0, 1)}, {2, 2, cell(2, 1, 0, 2)}, {3, 1, cell(3, 0, 2, 1)}} {
		if c, e := m.Place(x.id, x.order); c != x.want || e != api.OK {
			t.Error(x, c, e)
		}
	}
	wantRuns := func(want ...uint32) {
		t.Helper()
		if got := m.Runs(); !slices.Equal(got, want) {
			t.Error(got, want)
		}
	}
	wantRuns(1, 3)
	m.Remove(1)
	wantRuns(3)
	m.Turn()
	wantRuns(2)
	if e := m.Remove(3); e != api.OK || m.Active() != 1 || m.Rows() != 2 {
		t.Error(e, m.Active(), m.Rows())
	}
	if n := m.Unify(); n != 1 || m.Rows() != 1 || m.Active() != 0 {
		t.Error(n, m.Rows(), m.Active())
	}
}

func TestPlaceRefuses(t *testing.T) {
	m := matrix(t, 1)
	place(t, m, 1, 1)
	for _, x := range []struct {
		id    uint32
		order int
		e     api.Errno
	}{{0, 0, api.ErrArg}, {2, -1, api.ErrArg}, {2, 2, api.ErrArg}, {1, 2, api.ErrArg}, {2, api.MaxInt, api.ErrArg}, {2, api.MinInt, api.ErrArg}, {1, 0, api.ErrTwice}, {1, 1, api.ErrTwice}} {
		if c, e := m.Place(x.id, x.order); c != (api.Cell{}) || e != x.e {
			t.Error(x, c, e)
		}
	}
	for id := uint32(2); id <= api.MaxRows; id++ {
		if c, e := m.Place(id, 1); c != cell(id, int(id-1), 0, 1) || e != api.OK {
			t.Error(id, c, e)
		}
	}
	if c, e := m.Place(99, 0); c != (api.Cell{}) || e != api.ErrFull || m.Rows() != api.MaxRows {
		t.Error(c, e)
	}
	if _, e := m.Place(5, 0); e != api.ErrTwice {
		t.Error(e)
	}
	for _, id := range []uint32{0, 99, 1<<32 - 1} {
		if e := m.Remove(id); e != api.ErrNone {
			t.Error(id, e)
		}
	}
	m.Remove(4)
	if c, e := m.Place(99, 0); c != cell(99, 3, 0, 0) || e != api.OK {
		t.Error(c, e)
	}
	if c, e := m.Place(98, 1); c != (api.Cell{}) || e != api.ErrFull {
		t.Error(c, e)
	}
}

func TestTurnsVisitEveryRow(t *testing.T) {
	m := matrix(t, 0)
	for id := range uint32(3) {
		place(t, m, id+1, 0)
	}
	for _, want := range []int{0, 1, 2, 0, 1} {
		if m.Active() != want || !slices.Equal(m.Runs(), []uint32{uint32(want + 1)}) {
			t.Error(want, m.Active(), m.Runs())
		}
		m.Turn()
	}
	m.Remove(1) // row 2 is active, and row 0 is empty
	if m.Active() != 2 || m.Rows() != 3 || !slices.Equal(m.Runs(), []uint32{3}) {
		t.Error(m.Active(), m.Rows(), m.Runs())
	}
	m.Turn()
	if m.Active() != 0 || !slices.Equal(m.Runs(), []uint32{2}) {
		t.Error(m.Active(), m.Runs())
	}
	m.Turn()
	m.Turn()
	m.Remove(3)
	if m.Active() != 0 || m.Rows() != 2 {
		t.Error(m.Active(), m.Rows())
	}
}

func TestRunsGoOnCyclically(t *testing.T) {
	m := matrix(t, 2)
	place(t, m, 9, 2) // row 0
	place(t, m, 8, 1) // row 1
	place(t, m, 7, 0)
	place(t, m, 6, 1) // row 2, start 0
	place(t, m, 5, 1)
	place(t, m, 4, 0) // row 1, start 3
	m.Remove(8)
	for _, want := range [][]uint32{{9}, {4, 6, 7}, {5, 6}} {
		if got := m.Runs(); !slices.Equal(got, want) {
			t.Error(got, want, m.Cells())
		}
		m.Turn()
	}
	m.Turn()
	m.Turn() // row 2
	m.Remove(5)
	if got := m.Runs(); !slices.Equal(got, []uint32{4, 6, 7}) {
		t.Error(got)
	}
	m.Remove(9)
	if got := m.Runs(); !slices.Equal(got, []uint32{4, 6, 7}) {
		t.Error(got)
	}
}

func TestIdle(t *testing.T) {
	m := matrix(t, 3)
	place(t, m, 1, 1)
	place(t, m, 2, 0)
	place(t, m, 3, 3)
	for _, x := range [][2]int{{0, 5}, {1, 0}, {2, 8}, {15, 8}, {16, 8}, {api.MaxInt, 8}, {-1, 0}, {api.MinInt, 0}} {
		if n := m.Idle(x[0]); n != x[1] {
			t.Error(x, n)
		}
	}
	m.Remove(3)
	if m.Idle(1) != 8 {
		t.Error(m.Idle(1))
	}
	wide := matrix(t, 10)
	place(t, wide, 1, 9)
	place(t, wide, 2, 6)
	place(t, wide, 3, 5)
	if n := wide.Idle(0); n != 1024-512-64-32 {
		t.Error(n)
	}
}

func TestUnifyKeepsTheActiveRow(t *testing.T) {
	m := matrix(t, 1)
	place(t, m, 1, 1) // row 0
	place(t, m, 2, 0) // row 1
	place(t, m, 3, 1) // row 2
	place(t, m, 4, 1) // row 3
	m.Remove(1)
	m.Turn()
	m.Turn() // row 2
	// 2 moves to row 0, 3 to row 1, and 4 to row 2, which has a cell again.
	if n := m.Unify(); n != 3 || m.Active() != 2 {
		t.Error(n, m.Active(), m.Cells())
	}
	if want := []api.Cell{cell(2, 0, 0, 0), cell(3, 1, 0, 1), cell(4, 2, 0, 1)}; !slices.Equal(m.Cells(), want) {
		t.Error(m.Cells())
	}
	place(t, m, 5, 1) // row 3
	m.Remove(3)
	m.Turn() // row 3
	if m.Active() != 3 {
		t.Fatal(m.Active())
	}
	// 4 moves to row 1, and 5 to row 2: row 3 has no cell any more.
	if n := m.Unify(); n != 2 || m.Active() != 0 || m.Rows() != 3 {
		t.Error(n, m.Active(), m.Rows())
	}
	if n := m.Unify(); n != 0 || m.Active() != 0 {
		t.Error(n, m.Active())
	}
	m.Turn()
	m.Turn()
	if n := m.Unify(); n != 0 || m.Active() != 2 {
		t.Error(n, m.Active())
	}
}

func TestUnifyRenumbersTheActiveRow(t *testing.T) {
	m := matrix(t, 2)
	place(t, m, 1, 1)
	place(t, m, 2, 1) // row 0 is full
	place(t, m, 3, 2) // row 1
	place(t, m, 4, 1) // row 2, start 0
	place(t, m, 5, 2) // row 3
	m.Remove(1)
	m.Remove(3)
	for range 3 {
		m.Turn()
	}
	// 4 moves to row 0 and 5 to row 1; row 3 has no cell any more.
	if n := m.Unify(); n != 2 || m.Active() != 0 || !slices.Equal(m.Cells(), []api.Cell{cell(4, 0, 0, 1), cell(2, 0, 2, 1), cell(5, 1, 0, 2)}) {
		t.Error(n, m.Active(), m.Cells())
	}
}

func TestResultsAreNewMemory(t *testing.T) {
	m := matrix(t, 2)
	place(t, m, 1, 0)
	place(t, m, 2, 0)
	m.Cells()[0] = cell(77, 7, 7, 7)
	m.Runs()[0] = 77
	cells, runs := m.Cells(), m.Runs()
	_, _ = append(cells, cell(8, 8, 8, 8)), append(runs, 8)
	m.Remove(1)
	place(t, m, 3, 1)
	if !slices.Equal(cells, []api.Cell{cell(1, 0, 0, 0), cell(2, 0, 1, 0)}) || !slices.Equal(runs, []uint32{1, 2}) {
		t.Error(cells, runs)
	}
	if !slices.Equal(m.Cells(), []api.Cell{cell(2, 0, 1, 0), cell(3, 0, 2, 1)}) {
		t.Error(m.Cells())
	}
	other := matrix(t, 2)
	if other.Rows() != 0 {
		t.Error("matrices are not independent")
	}
}

// step does one thing to both, and tells what each answered.
func step(r *rand.Rand, m *gang.Matrix, x *model) (got, want [2]any) {
	id, order := uint32(r.Intn(30)), r.Intn(x.order+3)-1
	switch r.Intn(9) {
	case 0, 1, 2, 3:
		c, e := m.Place(id, order)
		d, f := x.place(id, order)
		return [2]any{c, e}, [2]any{d, f}
	case 4, 5, 6:
		return [2]any{m.Remove(id), 0}, [2]any{x.remove(id), 0}
	case 7:
		m.Turn()
		x.turn()
		return
	}
	rows := m.Rows()
	got, want = [2]any{m.Unify(), 0}, [2]any{x.unify(), 0}
	if m.Rows() > rows {
		got[1] = "more rows"
	}
	return got, want
}

func TestLikeTheModel(t *testing.T) {
	r := rand.New(rand.NewSource(32))
	for round := range 60 {
		order := r.Intn(5)
		if round%10 == 9 {
			order = 6 + r.Intn(5) // blocks of several words
		}
		m, x := matrix(t, order), newModel(order)
		for range 150 {
			if got, want := step(r, m, x); got != want {
				t.Fatal(got, want, m.Cells())
			}
			if !slices.Equal(m.Cells(), x.cells()) || !slices.Equal(m.Runs(), x.runs()) || m.Active() != x.active || m.Rows() != x.height() {
				t.Fatal(m.Cells(), x.cells(), m.Runs(), x.runs(), m.Active(), x.active, m.Rows(), x.height())
			}
			for row := -1; row <= api.MaxRows; row++ {
				if m.Idle(row) != x.idle(row) {
					t.Fatal(row, m.Idle(row), m.Cells())
				}
			}
		}
	}
}

func TestEachJobHasItsTurn(t *testing.T) {
	r := rand.New(rand.NewSource(33))
	for range 100 {
		m := matrix(t, 4)
		for id := range uint32(25) {
			m.Place(id+1, r.Intn(5))
		}
		for range r.Intn(9) {
			m.Remove(uint32(r.Intn(25)))
			m.Turn()
		}
		ran := []uint32{}
		for range m.Rows() {
			ran = append(ran, m.Runs()...)
			m.Turn()
		}
		for _, c := range m.Cells() {
			if !slices.Contains(ran, c.ID) {
				t.Fatal(c, m.Cells())
			}
		}
	}
}
