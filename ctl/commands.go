package ctl

import (
	"slices"
	"strconv"
	"strings"

	"ganger/api"
	"ganger/book"
	"ganger/digits"
	"ganger/script"
)

const (
	submitHead = "submit\n" // what follows it is one argument, whatever it contains
	maxWords   = 3
	maxDigits  = 9

	// The letters of the forms.
	numberLetter = 'n'
	textLetter   = 't'
)

// action is what is done for a command: its form has a letter for each argument.
type action struct {
	form    string
	settles bool
	run     func(args []any) any // returns an api.Errno, numbers or a text
}

func (x *Ctl) actions() map[string]action {
	release := func(id uint32) api.Errno { return x.table.Release(id, x.now) }
	cancel := func(id uint32) api.Errno { return x.end(id, api.JobCancelled) }
	return map[string]action{
		submitHead: {"t", true, x.submit},
		"hold":     {"n", true, onJob(x.table.Hold)},
		"release":  {"n", true, onJob(release)},
		"cancel":   {"n", true, onJob(cancel)},
		"requeue":  {"n", true, onJob(x.requeue)},
		"done":     {"n", true, onJob(x.finish(api.JobDone))},
		"failed":   {"n", true, onJob(x.finish(api.JobFailed))},
		"down":     {"tn", true, x.down},
		"up":       {"tn", true, x.up},
		"tick":     {"n", false, x.tick},
		"jobs":     {"", false, x.listJobs},
		"book":     {"", false, x.listBook},
	}
}

// Do carries a command out.
func (x *Ctl) Do(command string) string {
	if x == nil {
		return failure(api.ErrNil)
	}
	words := split(command)
	a, known := x.actions()[words[0]]
	if !known {
		return failure(api.ErrText)
	}
	args, ok := read(a.form, words[1:])
	if !ok {
		return failure(api.ErrText)
	}
	result := a.run(args)
	if e, isErrno := result.(api.Errno); isErrno && e != api.OK {
		return failure(e)
	}
	if a.settles {
		x.settle()
	}
	return "ok" + write(result)
}

func failure(e api.Errno) string {
	return "error " + strconv.Itoa(int(e))
}

// split returns the name of a command, and its arguments.
func split(text string) []string {
	if rest, ok := strings.CutPrefix(text, submitHead); ok {
		return []string{submitHead, rest}
	}
	// One word more than any command has is enough to see that they are too many.
	return strings.SplitN(text, " ", maxWords+1)
}

// read returns the arguments of a form: a number is an int, and a text a string.
func read(form string, words []string) ([]any, bool) {
	if len(words) != len(form) {
		return nil, false
	}
	args := []any{}
	for i, letter := range form {
		switch letter {
		case numberLetter:
			n, ok := digits.Plain(words[i], maxDigits)
			if !ok {
				return nil, false
			}
			args = append(args, n)
		case textLetter:
			args = append(args, words[i])
		}
	}
	return args, true
}

// write returns the text of what a command has returned.
func write(result any) string {
	text := ""
	switch v := result.(type) {
	case string:
		text = v
	case []uint32:
		for _, id := range v {
			text += " " + number(id)
		}
	}
	return text
}

func number(id uint32) string {
	return strconv.FormatUint(uint64(id), 10)
}

// onJob makes a command of a change of the job that is its argument.
func onJob(change func(id uint32) api.Errno) func(args []any) any {
	return func(args []any) any { return change(uint32(args[0].(int))) }
}

func (x *Ctl) submit(args []any) any {
	s, _, e := script.Parse(args[0].(string))
	if e != api.OK {
		return e
	}
	ids, e := x.table.Submit(s, x.now)
	if e != api.OK {
		return e
	}
	return ids
}

// finish ends jobs that run.
func (x *Ctl) finish(how int) func(id uint32) api.Errno {
	return func(id uint32) api.Errno {
		j, ok := x.table.Get(id)
		switch {
		case !ok:
			return api.ErrNone
		case j.How != api.JobRunning:
			return api.ErrState
		}
		return x.end(id, how)
	}
}

// part returns the position of the partition with that name, or -1.
func (x *Ctl) part(name string) int {
	return slices.IndexFunc(x.conf.Parts, func(p api.Part) bool { return p.Name == name })
}

func (x *Ctl) down(args []any) any {
	part, worker := x.part(args[0].(string)), args[1].(int)
	if part < 0 {
		return api.ErrNone
	}
	if e := x.yards[part].Fail(worker); e != api.OK {
		return e
	}
	for _, j := range x.all() {
		if j.Part != part || !holds(j) || !contains(j.Block, worker) {
			continue
		}
		if !j.Spec.Requeue || x.requeue(j.ID) != api.OK {
			x.end(j.ID, api.JobFailed)
		}
	}
	return api.OK
}

func (x *Ctl) up(args []any) any {
	part, worker := x.part(args[0].(string)), args[1].(int)
	if part < 0 {
		return api.ErrNone
	}
	return x.yards[part].Heal(worker)
}

func (x *Ctl) tick(args []any) any {
	n := args[0].(int)
	if n < 1 || n > api.MaxWaits || x.now+n > api.MaxTime {
		return api.ErrArg
	}
	for range n {
		x.pass()
		x.settle()
	}
	return api.OK
}

func (x *Ctl) listJobs([]any) any {
	names := [...]string{
		api.JobWaiting:   "waiting",
		api.JobHeld:      "held",
		api.JobRunning:   "running",
		api.JobSuspended: "suspended",
		api.JobDone:      "done",
		api.JobFailed:    "failed",
		api.JobCancelled: "cancelled",
		api.JobLate:      "late",
		api.JobNever:     "never",
	}
	lines := []string{""}
	for _, j := range x.all() {
		lines = append(lines, strings.Join([]string{number(j.ID), j.Spec.Name, names[j.How], strconv.Itoa(j.Ran)}, " "))
	}
	return strings.Join(lines, "\n")
}

func (x *Ctl) listBook([]any) any {
	lines := []string{""}
	for _, c := range x.book {
		line, _ := book.Line(c) // a charge that was made here is valid
		lines = append(lines, line)
	}
	return strings.Join(lines, "\n")
}
