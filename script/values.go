package script

import (
	"strconv"
	"strings"

	"ganger/api"
	"ganger/clock"
	"ganger/depend"
	"ganger/digits"
	"ganger/indexes"
)

// The keys of the options, in the order in which they are printed.
const (
	jobName = iota
	account
	partition
	qos
	size
	limit
	array
	dependency
	nice
	begin
	hold
	requeue
	keys
)

const (
	maxDigits      = 7
	maxBeginDigits = 13
)

// seconds are a time limit, which is written otherwise than other numbers.
type seconds int

// values are what a script says, by key: names are strings, numbers are int, and the last two are bool.
type values [keys]any

func keyNames() [keys]string {
	return [keys]string{
		jobName:    "job-name",
		account:    "account",
		partition:  "partition",
		qos:        "qos",
		size:       "size",
		limit:      "time",
		array:      "array",
		dependency: "dependency",
		nice:       "nice",
		begin:      "begin",
		hold:       "hold",
		requeue:    "requeue",
	}
}

func valuesOf(s api.Spec) values {
	return values{
		jobName:    s.Name,
		account:    s.Account,
		partition:  s.Partition,
		qos:        s.QOS,
		size:       s.Size,
		limit:      seconds(s.Limit),
		array:      s.Array,
		dependency: s.Depend,
		nice:       s.Nice,
		begin:      s.Begin,
		hold:       s.Hold,
		requeue:    s.Requeue,
	}
}

func specOf(v values) api.Spec {
	return api.Spec{
		Name:      v[jobName].(string),
		Account:   v[account].(string),
		Partition: v[partition].(string),
		QOS:       v[qos].(string),
		Size:      v[size].(int),
		Limit:     int(v[limit].(seconds)),
		Array:     v[array].(api.Array),
		Depend:    v[dependency].(api.Depend),
		Nice:      v[nice].(int),
		Begin:     v[begin].(int),
		Hold:      v[hold].(bool),
		Requeue:   v[requeue].(bool),
	}
}

// write returns the text of a valid value; none, if it is empty or 0.
func write(value any) string {
	text := ""
	switch v := value.(type) {
	case string:
		text = v
	case int:
		if v != 0 {
			text = strconv.Itoa(v)
		}
	case seconds:
		text, _ = clock.Print(int(v))
	case api.Array: // an empty one is refused, and has no text
		text, _ = indexes.Print(v)
	case api.Depend:
		text, _ = depend.Print(v)
	}
	return text
}

// read returns the value of a text, of the type of the value that the key had before.
func read(key int, before any, text string) (any, api.Errno) {
	switch before.(type) {
	case string:
		return text, api.OK
	case seconds:
		n, e := clock.Parse(text)
		return seconds(n), ofLayer(e)
	case api.Array:
		a, _, e := indexes.Parse(text)
		return a, ofLayer(e)
	case api.Depend:
		d, e := depend.Parse(text)
		return d, ofLayer(e)
	case bool:
		return true, api.OK
	}
	return readNumber(key, text)
}

// ofLayer returns the error of a script whose value another layer has refused.
func ofLayer(e api.Errno) api.Errno {
	if e == api.ErrArg {
		return api.ErrValue
	}
	return e
}

func readNumber(key int, text string) (int, api.Errno) {
	most, sign := maxDigits, 1
	switch key {
	case begin:
		most = maxBeginDigits
	case nice:
		if rest, ok := strings.CutPrefix(text, "-"); ok {
			text, sign = rest, -1
		}
	}
	n, ok := digits.Number(text, most)
	if !ok {
		return 0, api.ErrText
	}
	return sign * n, api.OK
}
