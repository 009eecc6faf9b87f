package ctl_test

import (
	"slices"
	"strconv"
	"strings"
	"testing"

	"ganger/api"
	"ganger/ctl"
)

// config is a cluster with one partition, whose jobs are ranked by their age alone.
func config(policy int, order int) api.Conf {
	return api.Conf{
		Policy: policy, Half: 3600, Quantum: 10, Requeues: 2,
		Parts:    []api.Part{{Name: "main", Order: order, Limit: api.MaxLimit}},
		Classes:  []api.Class{{Name: "normal", Most: 1000}},
		Accounts: []api.Account{{Name: "root", Shares: 1}},
	}
}

func controller(t *testing.T, c api.Conf) *ctl.Ctl {
	t.Helper()
	x, e := ctl.New(c)
	if e != api.OK || x == nil {
		t.Fatal(x, e)
	}
	return x
}

// job is the command that submits a script with these options.
func job(options ...string) string {
	text := "submit\n#!job\n"
	for _, option := range options {
		text += "#SBATCH --" + option + "\n"
	}
	return text + "run\n"
}

// sized is a job of that many workers and seconds.
func sized(size int, limit int, options ...string) string {
	return job(append([]string{"size=" + strconv.Itoa(size), "time=" + strconv.Itoa(limit/60) + ":" + strconv.Itoa(limit%60)}, options...)...)
}

// do expects the answer of a command.
func do(t *testing.T, x *ctl.Ctl, command string, want string) {
	t.Helper()
	if got := x.Do(command); got != want {
		t.Errorf("%q at %d: %q; want %q", command, x.Now(), got, want)
	}
}

// all gives commands that are each answered ok.
func all(t *testing.T, x *ctl.Ctl, commands ...string) {
	t.Helper()
	for _, command := range commands {
		if got := x.Do(command); got != "ok" && !strings.HasPrefix(got, "ok ") {
			t.Fatalf("%q at %d: %q", command, x.Now(), got)
		}
	}
}

func runs(t *testing.T, x *ctl.Ctl, want ...uint32) {
	t.Helper()
	if got := x.Runs(); !slices.Equal(got, want) {
		t.Errorf("at %d these run: %v; want %v; %q", x.Now(), got, want, x.Do("jobs"))
	}
}

// states expects the states of all jobs.
func states(t *testing.T, x *ctl.Ctl, want ...int) {
	t.Helper()
	got := []int{}
	for id := range x.Jobs() {
		j, _ := x.Job(uint32(id + 1))
		got = append(got, j.How)
	}
	if !slices.Equal(got, want) {
		t.Errorf("at %d the states are %v; want %v", x.Now(), got, want)
	}
}

// charges expects the book, line by line.
func charges(t *testing.T, x *ctl.Ctl, want ...string) {
	t.Helper()
	do(t, x, "book", strings.Join(append([]string{"ok"}, want...), "\n"))
	if len(x.Book()) != len(want) {
		t.Error(x.Book())
	}
}

func get(t *testing.T, x *ctl.Ctl, id uint32) api.Job {
	t.Helper()
	j, ok := x.Job(id)
	if !ok {
		t.Fatal("there is no job", id)
	}
	return j
}

func block(t *testing.T, x *ctl.Ctl, id uint32, start, order int) {
	t.Helper()
	if b := get(t, x, id).Block; b != (api.Block{Start: start, Order: order}) {
		t.Errorf("job %d has %v; want %d, %d", id, b, start, order)
	}
}

// snapshot is everything that a controller tells.
func snapshot(x *ctl.Ctl) []any {
	l := []any{x.Now(), x.Do("jobs"), x.Do("book"), x.Runs(), x.Book(), x.Failed(0), x.Failed(1)}
	for id := range x.Jobs() {
		j, _ := x.Job(uint32(id + 1))
		l = append(l, j)
	}
	return l
}
