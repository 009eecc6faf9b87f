package conf

import (
	"slices"

	"ganger/api"
	"ganger/digits"
	"ganger/script"
)

const (
	maxDigits = 10
	maxWords  = 8 // of a line
)

// The kinds of lines, in the order in which they come.
const (
	noLine = iota
	policyLine
	halfLine
	quantumLine
	requeuesLine
	weightsLine
	partitionLine
	classLine
	accountLine
)

// reader reads the lines of a configuration.
type reader struct {
	conf   api.Conf
	before int // the kind of the line before
}

// mayFollow reports whether a line of that kind may come now.
func (r *reader) mayFollow(kind int) bool {
	again := kind == r.before && kind >= partitionLine
	return again || kind == r.before+1
}

// form is what stands in the lines that begin with the same word.
type form struct {
	kind int
	read func(c *api.Conf, words []string) bool
}

func forms() map[string]form {
	return map[string]form{
		wordPolicy: {policyLine, func(c *api.Conf, words []string) bool {
			return readFields(words, field{wordPolicy, policyInto(&c.Policy)})
		}},
		wordHalf: {halfLine, func(c *api.Conf, words []string) bool {
			return readFields(words, field{wordHalf, numberInto(&c.Half)})
		}},
		wordQuantum: {quantumLine, func(c *api.Conf, words []string) bool {
			return readFields(words, field{wordQuantum, numberInto(&c.Quantum)})
		}},
		wordRequeues: {requeuesLine, func(c *api.Conf, words []string) bool {
			return readFields(words, field{wordRequeues, numberInto(&c.Requeues)})
		}},
		wordWeights:   {weightsLine, readWeights},
		wordPartition: {partitionLine, readPartition},
		wordClass:     {classLine, readClass},
		wordAccount:   {accountLine, readAccount},
	}
}

// field is a word, and how the word after it is read.
type field struct {
	word string
	read func(word string) bool
}

// readFields reads a line that consists of these fields.
func readFields(words []string, fields ...field) bool {
	if len(words) != 2*len(fields) {
		return false
	}
	for i, f := range fields {
		if words[2*i] != f.word || !f.read(words[2*i+1]) {
			return false
		}
	}
	return true
}

func policyInto(policy *int) func(string) bool {
	return func(word string) bool {
		names := policies()
		*policy = slices.Index(names[:], word)
		return *policy >= api.PolicyFIFO
	}
}

func numberInto(n *int) func(string) bool {
	return func(word string) bool {
		ok := false
		*n, ok = digits.Plain(word, maxDigits)
		return ok
	}
}

func nameInto(name *string) func(string) bool {
	return func(word string) bool {
		*name = word
		return script.Name(word)
	}
}

func readWeights(c *api.Conf, words []string) bool {
	weights := [5]int{}
	if len(words) != 1+len(weights) {
		return false
	}
	for i := range weights {
		if !numberInto(&weights[i])(words[1+i]) {
			return false
		}
	}
	c.Weights = api.Weights{Fair: weights[0], Age: weights[1], Size: weights[2], QOS: weights[3], Part: weights[4]}
	return true
}

func readPartition(c *api.Conf, words []string) bool {
	p := api.Part{}
	ok := readFields(words,
		field{wordPartition, nameInto(&p.Name)},
		field{wordOrder, numberInto(&p.Order)},
		field{wordPriority, numberInto(&p.Prio)},
		field{wordLimit, numberInto(&p.Limit)},
	)
	c.Parts = append(c.Parts, p)
	return ok
}

func readClass(c *api.Conf, words []string) bool {
	class := api.Class{}
	ok := readFields(words,
		field{wordClass, nameInto(&class.Name)},
		field{wordPriority, numberInto(&class.Prio)},
		field{wordMost, numberInto(&class.Most)},
	)
	c.Classes = append(c.Classes, class)
	return ok
}

// readAccount reads the line of an account; the first one has no parent.
func readAccount(c *api.Conf, words []string) bool {
	a := api.Account{}
	fields := []field{{wordAccount, nameInto(&a.Name)}}
	if len(c.Accounts) > 0 {
		fields = append(fields, field{wordParent, nameInto(&a.Parent)})
	}
	ok := readFields(words, append(fields, field{wordShares, numberInto(&a.Shares)})...)
	c.Accounts = append(c.Accounts, a)
	return ok
}
