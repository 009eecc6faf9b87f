package indexes

import (
	"ganger/api"
)

const maxDigits = 4

// What a number stands for, in the order in which an item has them.
const (
	first = iota
	last
	stride
	most // after the percent sign
	parts
)

// reader reads the text of an array, rune by rune.
type reader struct {
	begin   int // where the present item, or the percent sign, is
	part    int // what the present number stands for
	digits  int // of the present number, so far
	numbers [parts]int
	marks   [api.MaxIndex + 1]bool
	fault   int // where the first item is that may not be, or -1
}

// step reads a rune, and reports whether a text may go on like that.
func (r *reader) step(at int, c rune) bool {
	switch {
	case c >= '0' && c <= '9':
		return r.digit(int(c - '0'))
	case r.digits == 0:
		return false
	case c == '-' && r.part == first, c == ':' && r.part == last:
		r.number(r.part + 1)
	case c == ',' && r.part != most:
		r.end()
		r.item(at+1, first)
	case c == '%' && r.part != most:
		r.end()
		r.item(at, most)
	default:
		return false
	}
	return true
}

func (r *reader) digit(d int) bool {
	number := &r.numbers[r.part]
	leadingZero := r.digits > 0 && *number == 0
	if leadingZero || r.digits == maxDigits {
		return false
	}
	*number = *number*10 + d
	r.digits++
	return true
}

// number begins the next number.
func (r *reader) number(part int) {
	r.part, r.digits = part, 0
	r.numbers[part] = 0
}

// item begins the next item, or the number after the percent sign.
func (r *reader) item(at int, part int) {
	r.begin = at
	r.number(part)
}

// end marks the indexes of the item that has ended, or its fault.
func (r *reader) end() {
	if r.part < last {
		r.numbers[last] = r.numbers[first]
	}
	if r.part < stride {
		r.numbers[stride] = 1
	}
	if r.isFault() {
		if r.fault < 0 {
			r.fault = r.begin
		}
		return
	}
	if r.part == most {
		return
	}
	for i := r.numbers[first]; i <= r.numbers[last]; i += r.numbers[stride] {
		r.marks[i] = true
	}
}

func (r *reader) isFault() bool {
	if r.part == most {
		return r.numbers[most] == 0 || r.numbers[most] > api.MaxIndex
	}
	low, high, by := r.numbers[first], r.numbers[last], r.numbers[stride]
	return low > api.MaxIndex || high > api.MaxIndex || by > api.MaxIndex || high < low || by == 0
}

// array returns what was read.
func (r *reader) array() api.Array {
	a := api.Array{Most: r.numbers[most]}
	for index, marked := range r.marks {
		if marked {
			a.L = append(a.L, index)
		}
	}
	return a
}
