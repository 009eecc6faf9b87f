package book

import (
	"slices"
	"strconv"
	"strings"

	"ganger/api"
	"ganger/digits"
	"ganger/script"
)

const (
	maxDigits = 13
	maxID     = 1<<32 - 1
	words     = 5 // of a line
)

// hows are the words of the states; those without one can't be charged.
func hows() [api.JobLate + 1]string {
	return [...]string{
		0:                "requeued",
		api.JobDone:      "done",
		api.JobFailed:    "failed",
		api.JobCancelled: "cancelled",
		api.JobLate:      "late",
	}
}

// Line returns the text of a charge.
func Line(c api.Charge) (string, api.Errno) {
	if !isValid(c) {
		return "", api.ErrCharge
	}
	id := strconv.FormatUint(uint64(c.ID), 10)
	size := strconv.Itoa(c.Workers) + "x" + strconv.Itoa(c.Seconds)
	return strings.Join([]string{id, c.Account, size, hows()[c.How], strconv.Itoa(c.At)}, " "), api.OK
}

// Parse returns the charge of a line.
func Parse(line string) (api.Charge, api.Errno) {
	// One word more than a line has is enough to see that they are too many.
	l := strings.SplitN(line, " ", words+1)
	if len(l) != words {
		return api.Charge{}, api.ErrText
	}
	left, right, cross := strings.Cut(l[2], "x")
	id, isID := number(l[0])
	workers, isWorkers := number(left)
	seconds, isSeconds := number(right)
	at, isAt := number(l[4])
	how, isHow := howOf(l[3])
	if !isID || id > maxID || !script.Name(l[1]) || !cross || !isWorkers || !isSeconds || !isHow || !isAt {
		return api.Charge{}, api.ErrText
	}
	c := api.Charge{ID: uint32(id), Account: l[1], Workers: workers, Seconds: seconds, How: how, At: at}
	if !isValid(c) {
		return api.Charge{}, api.ErrCharge
	}
	return c, api.OK
}

func number(text string) (int, bool) {
	return digits.Plain(text, maxDigits)
}

// howOf returns the state with that word.
func howOf(word string) (int, bool) {
	names := hows()
	how := slices.Index(names[:], word)
	return how, how >= 0 && word != ""
}
