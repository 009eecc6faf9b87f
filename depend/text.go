package depend

import (
	"strconv"
	"strings"

	"ganger/api"
	"ganger/digits"
)

const (
	maxJob       = 1<<32 - 1
	maxJobDigits = 10

	wordAfter     = "after"
	wordOK        = "afterok"
	wordNotOK     = "afternotok"
	wordAny       = "afterany"
	wordSingleton = "singleton"
)

// Print returns the text of a dependency.
func Print(d api.Depend) (string, api.Errno) {
	if e := Check(d); e != api.OK {
		return "", e
	}
	words := [...]string{
		api.NeedAfter:     wordAfter,
		api.NeedOK:        wordOK,
		api.NeedNotOK:     wordNotOK,
		api.NeedAny:       wordAny,
		api.NeedSingleton: wordSingleton,
	}
	needs := []string{}
	for _, need := range d.L {
		text := words[need.Kind]
		for _, job := range need.Jobs {
			text += ":" + strconv.FormatUint(uint64(job), 10)
		}
		needs = append(needs, text)
	}
	return strings.Join(needs, separator(d.Any)), api.OK
}

// separator stands between the needs of a text.
func separator(either bool) string {
	if either {
		return "?"
	}
	return ","
}

// Parse returns the dependency of a text.
func Parse(text string) (api.Depend, api.Errno) {
	if text == "" {
		return api.Depend{}, api.OK
	}
	d := api.Depend{Any: strings.Contains(text, separator(true))}
	if d.Any && strings.Contains(text, separator(false)) {
		return api.Depend{}, api.ErrText
	}
	for rest, more := text, true; more; {
		word := ""
		word, rest, more = strings.Cut(rest, separator(d.Any))
		need, ok := parseNeed(word)
		if !ok {
			return api.Depend{}, api.ErrText
		}
		d.L = append(d.L, need)
	}
	if e := Check(d); e != api.OK {
		return api.Depend{}, e
	}
	return d, api.OK
}

// parseNeed returns the need of a text, whose jobs may still be 0, or too many.
func parseNeed(text string) (api.Need, bool) {
	word, rest, more := strings.Cut(text, ":")
	kind := kindOf(word)
	if kind == 0 || more == (kind == api.NeedSingleton) {
		return api.Need{}, false
	}
	need := api.Need{Kind: kind}
	for more {
		number := ""
		number, rest, more = strings.Cut(rest, ":")
		job, ok := digits.Plain(number, maxJobDigits)
		if !ok || job > maxJob {
			return api.Need{}, false
		}
		need.Jobs = append(need.Jobs, uint32(job))
	}
	return need, true
}

// kindOf returns the kind with that word, or 0.
func kindOf(word string) int {
	switch word {
	case wordAfter:
		return api.NeedAfter
	case wordOK:
		return api.NeedOK
	case wordNotOK:
		return api.NeedNotOK
	case wordAny:
		return api.NeedAny
	case wordSingleton:
		return api.NeedSingleton
	}
	return 0
}
