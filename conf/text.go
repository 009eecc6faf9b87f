package conf

import (
	"strconv"
	"strings"

	"ganger/api"
)

// The words of the lines.
const (
	wordPolicy    = "policy"
	wordHalf      = "half"
	wordQuantum   = "quantum"
	wordRequeues  = "requeues"
	wordWeights   = "weights"
	wordPartition = "partition"
	wordClass     = "qos"
	wordAccount   = "account"
	wordOrder     = "order"
	wordPriority  = "priority"
	wordLimit     = "limit"
	wordMost      = "most"
	wordParent    = "parent"
	wordShares    = "shares"
)

// policies are the words of the policies, by number.
func policies() [api.PolicyGang + 1]string {
	return [...]string{
		api.PolicyFIFO:         "fifo",
		api.PolicyEasy:         "easy",
		api.PolicyConservative: "conservative",
		api.PolicyGang:         "gang",
	}
}

// Print returns the text of a configuration.
func Print(c api.Conf) (string, api.Errno) {
	if e := Check(c); e != api.OK {
		return "", e
	}
	text := line(wordPolicy, policies()[c.Policy]) +
		line(wordHalf, number(c.Half)) +
		line(wordQuantum, number(c.Quantum)) +
		line(wordRequeues, number(c.Requeues))
	weights := []string{wordWeights}
	for _, weight := range weightsOf(c.Weights) {
		weights = append(weights, number(weight))
	}
	text += line(weights...)
	for _, p := range c.Parts {
		text += line(wordPartition, p.Name, wordOrder, number(p.Order), wordPriority, number(p.Prio), wordLimit, number(p.Limit))
	}
	for _, class := range c.Classes {
		text += line(wordClass, class.Name, wordPriority, number(class.Prio), wordMost, number(class.Most))
	}
	for i, a := range c.Accounts {
		parent := []string{}
		if i > 0 {
			parent = []string{wordParent, a.Parent}
		}
		words := append([]string{wordAccount, a.Name}, parent...)
		text += line(append(words, wordShares, number(a.Shares))...)
	}
	return text, api.OK
}

func line(words ...string) string {
	return strings.Join(words, " ") + "\n"
}

func number(n int) string {
	return strconv.Itoa(n)
}

// Parse returns the configuration of a text; or its first line that is malformed.
func Parse(text string) (api.Conf, int, api.Errno) {
	r := reader{}
	forms := forms()
	malformed := 0
lines:
	for at, rest := 1, text; rest != "" || r.before != accountLine; at++ {
		line, after, ended := strings.Cut(rest, "\n")
		// One word more than any form has is enough to see that they are too many.
		words := strings.SplitN(line, " ", maxWords+1)
		f, known := forms[words[0]]
		switch {
		case !ended, !known, !r.mayFollow(f.kind), !f.read(&r.conf, words):
			malformed = at
			break lines
		}
		r.before, rest = f.kind, after
	}
	if malformed > 0 {
		return api.Conf{}, malformed, api.ErrText
	}
	if e := Check(r.conf); e != api.OK {
		return api.Conf{}, 0, e
	}
	return r.conf, 0, api.OK
}
