package digits_test

import (
	"testing"

	"ganger/digits"
)

func TestNumberAndPlain(t *testing.T) {
	for _, x := range []struct {
		text          string
		most          int
		n             int
		number, plain bool
	}{
		{"0", 1, 0, true, true}, {"7", 1, 7, true, true}, {"907", 3, 907, true, true}, {"9999999999999", 13, 9999999999999, true, true},
		{"00", 3, 0, true, false}, {"07", 3, 7, true, false}, {"000", 3, 0, true, false},
		{"", 3, 0, false, false}, {"1234", 3, 0, false, false}, {"0123", 3, 0, false, false},
		{"-1", 3, 0, false, false}, {"+1", 3, 0, false, false}, {" 1", 3, 0, false, false}, {"1 ", 3, 0, false, false}, {"1x", 3, 0, false, false},
		{"１", 9, 0, false, false}, {"\x80", 9, 0, false, false}, {"/", 1, 0, false, false}, {":", 1, 0, false, false},
	} {
		want := 0
		if x.number {
			want = x.n
		}
		if n, ok := digits.Number(x.text, x.most); n != want || ok != x.number {
			t.Errorf("Number(%q, %d) is %d, %v", x.text, x.most, n, ok)
		}
		if !x.plain {
			want = 0
		}
		if n, ok := digits.Plain(x.text, x.most); n != want || ok != x.plain {
			t.Errorf("Plain(%q, %d) is %d, %v", x.text, x.most, n, ok)
		}
	}
}
