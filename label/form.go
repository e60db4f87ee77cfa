package label

import (
	"strings"

	"quaestor/api"
)

// isWord tells whether w may be a name or a value.
func isWord(w string) bool {
	return w != "" && len(w) <= api.MaxName && wordAt(w) == w
}

// wordAt answers what t begins with as far as it has bytes of words alone.
func wordAt(t string) string {
	for i := range len(t) {
		if !inWord(t[i]) {
			return t[:i]
		}
	}
	return t
}

// inWord tells whether c is a byte of words.
func inWord(c byte) bool {
	switch {
	case 'a' <= c && c <= 'z', 'A' <= c && c <= 'Z', '0' <= c && c <= '9':
		return true
	}
	return strings.IndexByte("_-./", c) >= 0
}

// textOf answers a sign's text, which is empty if the sign is none.
func textOf(sign int) string {
	switch sign {
	case api.Is:
		return "="
	case api.IsNot:
		return "!="
	case api.Begins:
		return "^="
	}
	return ""
}

// Print answers the text of q.
func Print(q api.Selector) string {
	b := []byte(q.Name)
	ahead := "{"
	for _, ask := range q.L {
		b = append(b, ahead...)
		b = append(b, ask.Name...)
		b = append(b, textOf(ask.Sign)...)
		b = append(b, ask.Value...)
		ahead = ","
	}
	if len(q.L) > 0 {
		b = append(b, '}')
	}
	return string(b)
}

// read answers the selector whose text t is; false: t is none's, and what is answered is what was read until then.
func read(t string) (api.Selector, bool) {
	q := api.Selector{Name: wordAt(t)}
	if q.Name != "" && !isWord(q.Name) {
		return q, false
	}
	rest := t[len(q.Name):]
	if rest == "" {
		return q, true
	}
	l, good := questionsOf(rest)
	q.L = l
	return q, good
}

// questionsOf answers the questions that t tells in braces; false: it tells none, or something else, or too many.
func questionsOf(t string) ([]api.Question, bool) {
	var l []api.Question
	rest, good := strings.CutPrefix(t, "{")
	word := func() string {
		w := wordAt(rest)
		rest = rest[len(w):]
		good = good && isWord(w)
		return w
	}
	skip := func(mark string) bool {
		after, there := strings.CutPrefix(rest, mark)
		rest = after
		return there
	}
	sign := func() int {
		for n := range api.Begins + 1 {
			if skip(textOf(n)) {
				return n
			}
		}
		good = false
		return 0
	}
questions:
	for good {
		ask := api.Question{Name: word(), Sign: sign(), Value: word()}
		if !good || len(l) == api.MaxLabels {
			return l, false
		}
		l = append(l, ask)
		switch {
		case skip(","):
			continue questions
		case skip("}"):
			break questions
		default:
			good = false
		}
	}
	return l, good && rest == ""
}
