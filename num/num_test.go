package num_test

import (
	"math/big"
	"testing"

	"ganger/api"
	"ganger/num"
)

// edges are numbers at which 64 bits, their halves and their roots end.
func edges() []int {
	l := []int{}
	for _, n := range []int{api.MinInt, -1 << 62, -3037000500, -1 << 32, -1 << 31, -10, 0, 10, 1 << 31, 1 << 32, 3037000500, 1 << 62, api.MaxInt} {
		for d := -3; d <= 3; d++ {
			sum := big.NewInt(int64(n))
			sum.Add(sum, big.NewInt(int64(d)))
			if sum.IsInt64() {
				l = append(l, int(sum.Int64()))
			}
		}
	}
	return l
}

func checkExact(t *testing.T, what string, a, b int, want *big.Int, n int, e api.Errno) {
	t.Helper()
	if want.IsInt64() {
		if e != api.OK || int64(n) != want.Int64() {
			t.Errorf("%s(%d, %d) is %d, %d; want %v", what, a, b, n, e, want)
		}
	} else if e != api.ErrRange || n != 0 {
		t.Errorf("%s(%d, %d) is %d, %d; want 0, ErrRange", what, a, b, n, e)
	}
}

func TestSumsAndProductsAreExactOrErrRange(t *testing.T) {
	for _, a := range edges() {
		for _, b := range edges() {
			x, y := big.NewInt(int64(a)), big.NewInt(int64(b))
			n, e := num.Add(a, b)
			checkExact(t, "Add", a, b, new(big.Int).Add(x, y), n, e)
			n, e = num.Sub(a, b)
			checkExact(t, "Sub", a, b, new(big.Int).Sub(x, y), n, e)
			n, e = num.Mul(a, b)
			checkExact(t, "Mul", a, b, new(big.Int).Mul(x, y), n, e)
		}
	}
}

func TestDivIsEuclidean(t *testing.T) {
	for _, a := range edges() {
		for _, b := range edges() {
			q, r, e := num.Div(a, b)
			switch {
			case b == 0:
				if q != 0 || r != 0 || e != api.ErrArg {
					t.Errorf("Div(%d, 0) is %d, %d, %d", a, q, r, e)
				}
			case a == api.MinInt && b == -1:
				if q != 0 || r != 0 || e != api.ErrRange {
					t.Errorf("Div(MinInt, -1) is %d, %d, %d", q, r, e)
				}
			default:
				wantQ, wantR := new(big.Int).DivMod(big.NewInt(int64(a)), big.NewInt(int64(b)), new(big.Int))
				if e != api.OK || int64(q) != wantQ.Int64() || int64(r) != wantR.Int64() {
					t.Errorf("Div(%d, %d) is %d, %d, %d; want %v, %v", a, b, q, r, e, wantQ, wantR)
				}
			}
		}
	}
}

func TestDivExamples(t *testing.T) {
	for _, x := range []struct{ a, b, q, r int }{{7, 2, 3, 1}, {-7, 2, -4, 1}, {7, -2, -3, 1}, {-7, -2, 4, 1}, {-8, 2, -4, 0}, {-8, -2, 4, 0}, {api.MinInt, 1, api.MinInt, 0}, {-1, api.MinInt, 1, api.MaxInt}, {1, api.MinInt, 0, 1}} {
		if q, r, e := num.Div(x.a, x.b); q != x.q || r != x.r || e != api.OK {
			t.Error(x, q, r, e)
		}
	}
}

// limit is n, or the bound of 64 bits that it exceeds.
func limit(n *big.Int) int {
	switch {
	case n.IsInt64():
		return int(n.Int64())
	case n.Sign() < 0:
		return api.MinInt
	}
	return api.MaxInt
}

func TestSumSaturatesStepByStep(t *testing.T) {
	if n := num.Sum(); n != 0 {
		t.Error(n)
	}
	for _, a := range edges() {
		if n := num.Sum(a); n != a {
			t.Errorf("Sum(%d) is %d", a, n)
		}
		for _, b := range edges() {
			for _, c := range []int{0, 1, -1, 5, -5, api.MaxInt, api.MinInt} {
				want := limit(new(big.Int).Add(big.NewInt(int64(a)), big.NewInt(int64(b))))
				want = limit(new(big.Int).Add(big.NewInt(int64(want)), big.NewInt(int64(c))))
				if n := num.Sum(a, b, c); n != want {
					t.Errorf("Sum(%d, %d, %d) is %d; want %d", a, b, c, n, want)
				}
			}
		}
	}
	if n := num.Sum(api.MaxInt, 1, -1); n != api.MaxInt-1 {
		t.Error(n)
	}
	if n := num.Sum(1, 2, 3, 4, 5, 6, 7); n != 28 {
		t.Error(n)
	}
}

func TestSumLeavesItsArguments(t *testing.T) {
	l := []int{api.MaxInt, 5, -3}
	if n := num.Sum(l...); n != api.MaxInt-3 || l[0] != api.MaxInt || l[1] != 5 || l[2] != -3 {
		t.Error(n, l)
	}
}

func TestTimesSaturates(t *testing.T) {
	for _, a := range edges() {
		for _, b := range edges() {
			want := limit(new(big.Int).Mul(big.NewInt(int64(a)), big.NewInt(int64(b))))
			if n := num.Times(a, b); n != want {
				t.Errorf("Times(%d, %d) is %d; want %d", a, b, n, want)
			}
		}
	}
}

func TestMulDiv(t *testing.T) {
	for _, a := range edges() {
		for _, b := range edges() {
			for _, c := range edges() {
				n, e := num.MulDiv(a, b, c)
				if a < 0 || b < 0 || c < 1 {
					if n != 0 || e != api.ErrArg {
						t.Errorf("MulDiv(%d, %d, %d) is %d, %d; want ErrArg", a, b, c, n, e)
					}
					continue
				}
				want := new(big.Int).Mul(big.NewInt(int64(a)), big.NewInt(int64(b)))
				want.Div(want, big.NewInt(int64(c)))
				checkExact(t, "MulDiv", a, b, want, n, e)
			}
		}
	}
	if n, e := num.MulDiv(api.MaxInt, 10, 20); n != 4611686018427387903 || e != api.OK {
		t.Error(n, e)
	}
	if n, e := num.MulDiv(-1, 1, 0); n != 0 || e != api.ErrArg {
		t.Error(n, e)
	}
	// The quotient fits 64 bits without a sign, but no int.
	if n, e := num.MulDiv(api.MaxInt, 4, 2); n != 0 || e != api.ErrRange {
		t.Error(n, e)
	}
}

func TestUp(t *testing.T) {
	for n := 1; n <= 5000; n++ {
		power, exponent := 1, 0
		for power < n {
			power, exponent = power*2, exponent+1
		}
		if p, k := num.Up(n); p != power || k != exponent {
			t.Errorf("Up(%d) is %d, %d", n, p, k)
		}
	}
	for _, x := range [][3]int{
		{1 << 62, 1 << 62, 62}, {1<<62 - 1, 1 << 62, 62}, {1<<61 + 1, 1 << 62, 62}, {1 << 61, 1 << 61, 61},
		{0, 0, 0}, {-1, 0, 0}, {-5, 0, 0}, {api.MinInt, 0, 0}, {1<<62 + 1, 0, 0}, {api.MaxInt, 0, 0},
	} {
		if p, k := num.Up(x[0]); p != x[1] || k != x[2] {
			t.Error(x, p, k)
		}
	}
}

// cutLike cuts with bounds in 64 bits, for every type alike.
func cutLike(n, low, high int) int {
	if low > high {
		return low
	}
	return min(max(n, low), high)
}

func TestCut(t *testing.T) {
	bounds := []int{-128, -127, -5, -1, 0, 1, 7, 126, 127}
	numbers := append(edges(), -129, -128, -127, 127, 128, 255, 256, 257, 300, -300, 1<<16+3, 1<<32+3)
	for _, n := range numbers {
		for _, low := range bounds {
			for _, high := range bounds {
				want := cutLike(n, low, high)
				if got := num.Cut(n, int8(low), int8(high)); int(got) != want {
					t.Errorf("Cut[int8](%d, %d, %d) is %d", n, low, high, got)
				}
				if got := num.Cut(n, int16(low), int16(high)); int(got) != want {
					t.Errorf("Cut[int16](%d, %d, %d) is %d", n, low, high, got)
				}
				if got := num.Cut(n, int32(low), int32(high)); int(got) != want {
					t.Errorf("Cut[int32](%d, %d, %d) is %d", n, low, high, got)
				}
				if got := num.Cut(n, low, high); got != want {
					t.Errorf("Cut(%d, %d, %d) is %d", n, low, high, got)
				}
			}
		}
	}
}

func TestCutAtTheEndsOfItsTypes(t *testing.T) {
	if num.Cut[int16](40000, -32768, 32767) != 32767 || num.Cut[int16](-40000, -32768, 32767) != -32768 {
		t.Error("int16")
	}
	if num.Cut[int32](1<<40, -1<<31, 1<<31-1) != 1<<31-1 || num.Cut[int32](-1<<40, -1<<31, 1<<31-1) != -1<<31 {
		t.Error("int32")
	}
	if num.Cut(api.MaxInt, api.MinInt, api.MaxInt) != api.MaxInt || num.Cut(api.MinInt, api.MinInt, api.MaxInt) != api.MinInt {
		t.Error("int")
	}
}
