// Package whole_test gives every call of the layers arguments of all sorts: none may panic, or go on for ever.
package whole_test

import (
	"math/rand"
	"reflect"
	"testing"

	"ganger/api"
	"ganger/backfill"
	"ganger/book"
	"ganger/buddy"
	"ganger/clock"
	"ganger/conf"
	"ganger/crate"
	"ganger/ctl"
	"ganger/decay"
	"ganger/depend"
	"ganger/gang"
	"ganger/indexes"
	"ganger/jobs"
	"ganger/num"
	"ganger/prio"
	"ganger/profile"
	"ganger/rank"
	"ganger/script"
	"ganger/share"
	"ganger/spool"
	"ganger/tape"
	"ganger/waits"
)

var (
	numbers = []int{7, 8, 10, 11, 15, 16, 17, 63, 64, 1000, 1023, 1024, 1 << 20, 1 << 30, 1 << 32, 1 << 40, 1<<40 + 1, 1 << 42, 1 << 62, -1, -2, -64, api.MaxInt, api.MaxInt - 1, api.MinInt, api.MinInt + 1}
	texts   = []string{"", "a", "root", "main", "normal", "job", "a b", "\xff", "x\ny", "1-2", "afterok:1", "#!job\n", "submit\n#!job\n", "tick 3", "down main 0", "up main 0", "requeue 1", "cancel 1", "done 1", "hold 1", "jobs", "book"}
)

// random makes a value of a type.
func random(r *rand.Rand, t reflect.Type) reflect.Value {
	v := reflect.New(t).Elem()
	switch t.Kind() {
	case reflect.Int:
		v.SetInt(int64(r.Intn(6)))
		if r.Intn(3) == 0 {
			v.SetInt(int64(numbers[r.Intn(len(numbers))]))
		}
	case reflect.Int8:
		v.SetInt(int64(r.Intn(256) - 128))
	case reflect.Uint32:
		v.SetUint(uint64(r.Uint32() >> r.Intn(32)))
	case reflect.Uint8:
		v.SetUint(uint64(r.Intn(256)))
	case reflect.Bool:
		v.SetBool(r.Intn(2) == 0)
	case reflect.String:
		v.SetString(texts[r.Intn(len(texts))])
	case reflect.Slice:
		for range r.Intn(5) {
			v.Set(reflect.Append(v, random(r, t.Elem())))
		}
	case reflect.Struct:
		for i := range t.NumField() {
			v.Field(i).Set(random(r, t.Field(i).Type))
		}
	case reflect.Func:
		v.Set(reflect.MakeFunc(t, func([]reflect.Value) []reflect.Value { return []reflect.Value{reflect.ValueOf(r.Intn(2) == 0)} }))
	}
	return v
}

// call calls f with random arguments.
func call(t *testing.T, r *rand.Rand, f reflect.Value) {
	t.Helper()
	args := []reflect.Value{}
	for i := range f.Type().NumIn() {
		args = append(args, random(r, f.Type().In(i)))
	}
	defer func() {
		if e := recover(); e != nil {
			t.Fatal(e, f.Type(), args)
		}
	}()
	if f.Type().IsVariadic() {
		f.CallSlice(args)
		return
	}
	f.Call(args)
}

func TestFunctions(t *testing.T) {
	r := rand.New(rand.NewSource(1))
	for _, f := range []any{
		num.Add, num.Sub, num.Mul, num.Div, num.Sum, num.Times, num.MulDiv, num.Up, num.Cut[int], num.Cut[int8],
		decay.Factor, decay.After, decay.Charge, decay.Until,
		rank.Less, rank.Check, rank.Sort, rank.Put, rank.Drop, rank.Merge, rank.Bytes, rank.Top,
		buddy.New,
		profile.New, profile.Check, profile.At, profile.Least, profile.Fit, profile.Change, profile.Trim, profile.Meet,
		indexes.Parse, indexes.Check, indexes.Print,
		clock.Parse, clock.Print, clock.Minutes,
		depend.Check, depend.Print, depend.Parse, depend.Say, depend.Jobs,
		script.Name, script.Check, script.Print, script.Parse,
		conf.Check, conf.Print, conf.Parse, conf.Path,
		share.Sums, share.Norms, share.Parts, share.Factors,
		prio.Age, prio.Size, prio.Of, prio.Prio, prio.Keys, prio.First,
		jobs.New,
		waits.Check, waits.How, waits.Alone, waits.Room, waits.Say, waits.Ready, waits.Never,
		backfill.Check, backfill.Free, backfill.At, backfill.Earliest, backfill.FIFO, backfill.Easy, backfill.Conservative,
		gang.New,
		crate.Sum, crate.Put, crate.Get, crate.All,
		spool.New, tape.Open,
		book.Check, book.Line, book.Parse, book.Total, book.Usage, book.Of,
		ctl.New,
	} {
		for range 2000 {
			call(t, r, reflect.ValueOf(f))
		}
	}
}

// objects are one of each, and nil ones.
func objects(r *rand.Rand) []any {
	c := api.Conf{
		Policy: 1 + r.Intn(4), Half: 5, Quantum: 2, Requeues: 1,
		Parts:    []api.Part{{Name: "main", Order: 2, Limit: 100000}},
		Classes:  []api.Class{{Name: "normal", Most: 9}},
		Accounts: []api.Account{{Name: "root", Shares: 1}},
	}
	yard, _ := buddy.New(r.Intn(api.MaxOrder + 1))
	matrix, _ := gang.New(r.Intn(api.MaxOrder + 1))
	file, _ := spool.New(100)
	log, _ := tape.Open(file)
	table, _ := jobs.New(c)
	table.Submit(api.Spec{Name: "a", Account: "root", Partition: "main", QOS: "normal", Size: 1, Limit: 5}, 0)
	x, _ := ctl.New(c)
	return []any{
		yard, matrix, file, log, table, x,
		(*buddy.Yard)(nil), (*gang.Matrix)(nil), (*spool.Spool)(nil), (*tape.Tape)(nil), (*jobs.Table)(nil), (*ctl.Ctl)(nil),
	}
}

func TestMethods(t *testing.T) {
	r := rand.New(rand.NewSource(2))
	for range 100 {
		for _, o := range objects(r) {
			v := reflect.ValueOf(o)
			for range 300 {
				call(t, r, v.Method(r.Intn(v.NumMethod())))
			}
		}
	}
}
