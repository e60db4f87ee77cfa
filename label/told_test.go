package label_test

import (
	"fmt"
	"math/rand"
	"regexp"
	"slices"
	"sort"
	"strings"
	"testing"

	"quaestor/api"
	"quaestor/label"
)

// The chapter told once more, by patterns and by texts that are cut at their commas.

const wordForm = `[A-Za-z0-9_./-]{1,24}`

var (
	toldWord     = regexp.MustCompile(`\A` + wordForm + `\z`)
	toldQuestion = regexp.MustCompile(`\A(` + wordForm + `)(=|!=|\^=)(` + wordForm + `)\z`)
	toldWhole    = regexp.MustCompile(`\A((?:` + wordForm + `)?)(?:\{([^{}]+)\})?\z`)
)

func tellCheck(s api.Series) api.Errno {
	words := []string{s.Name}
	var names []string
	for _, l := range s.Labels {
		words = append(words, l.Name, l.Value)
		names = append(names, l.Name)
	}
	for _, w := range words {
		if !toldWord.MatchString(w) {
			return api.ErrArg
		}
	}
	if len(names) > 8 || !sort.StringsAreSorted(names) || len(slices.Compact(names)) < len(s.Labels) {
		return api.ErrArg
	}
	return api.OK
}

func tellBraces(name string, parts []string) string {
	if len(parts) == 0 {
		return name
	}
	return name + "{" + strings.Join(parts, ",") + "}"
}

func tellText(s api.Series) string {
	var parts []string
	for _, l := range s.Labels {
		parts = append(parts, fmt.Sprintf("%s=%s", l.Name, l.Value))
	}
	return tellBraces(s.Name, parts)
}

func tellPrint(q api.Selector) string {
	var parts []string
	for _, ask := range q.L {
		parts = append(parts, fmt.Sprintf("%s%s%s", ask.Name, []string{"=", "!=", "^="}[ask.Sign], ask.Value))
	}
	return tellBraces(q.Name, parts)
}

func tellSelector(t string) (api.Selector, api.Errno) {
	whole := toldWhole.FindStringSubmatch(t)
	if whole == nil {
		return api.Selector{}, api.ErrForm
	}
	q := api.Selector{Name: whole[1]}
	if whole[2] == "" {
		return q, api.OK
	}
	parts := strings.Split(whole[2], ",")
	for _, part := range parts {
		found := toldQuestion.FindStringSubmatch(part)
		if found == nil || len(parts) > 8 {
			return api.Selector{}, api.ErrForm
		}
		sign := map[string]int{"=": 0, "!=": 1, "^=": 2}[found[2]]
		q.L = append(q.L, api.Question{Name: found[1], Sign: sign, Value: found[3]})
	}
	return q, api.OK
}

// tellParse looks for the series among those whose labels are cut at the first = of each part.
func tellParse(t string) (api.Series, api.Errno) {
	name, rest, braces := strings.Cut(t, "{")
	s := api.Series{Name: name}
	if braces {
		for _, part := range strings.Split(strings.TrimSuffix(rest, "}"), ",") {
			l, value, _ := strings.Cut(part, "=")
			s.Labels = append(s.Labels, api.Label{Name: l, Value: value})
		}
	}
	if tellCheck(s) != api.OK || tellText(s) != t {
		return api.Series{}, api.ErrForm
	}
	return s, api.OK
}

func tellChooses(q api.Selector, s api.Series) bool {
	if q.Name != "" && q.Name != s.Name {
		return false
	}
	for _, ask := range q.L {
		same, begun := 0, 0
		for _, l := range s.Labels {
			if l.Name != ask.Name {
				continue
			}
			if l.Value == ask.Value {
				same++
			}
			if strings.Index(l.Value, ask.Value) == 0 {
				begun++
			}
		}
		if yes := [3]bool{same > 0, same == 0, begun > 0}; !yes[ask.Sign] {
			return false
		}
	}
	return true
}

func sameSeries(a, b api.Series) bool {
	return a.Name == b.Name && slices.Equal(a.Labels, b.Labels)
}

func sameSelector(a, b api.Selector) bool {
	return a.Name == b.Name && slices.Equal(a.L, b.L)
}

// holds holds what is read of a text against what is told, and what was read against the text.
func holds(t *testing.T, text string) {
	t.Helper()
	s, e := label.Parse(text)
	if want, wantE := tellParse(text); e != wantE || !sameSeries(s, want) {
		t.Fatalf("Parse(%.600q) = %+v, %d, want %+v, %d", text, s, e, want, wantE)
	}
	if e == api.OK && (label.Check(s) != api.OK || label.Text(s) != text) {
		t.Fatalf("of %q: Check = %d, Text = %q", text, label.Check(s), label.Text(s))
	}
	q, f := label.Selector(text)
	if want, wantE := tellSelector(text); f != wantE || !sameSelector(q, want) {
		t.Fatalf("Selector(%.600q) = %+v, %d, want %+v, %d", text, q, f, want, wantE)
	}
	if f == api.OK && label.Print(q) != text {
		t.Fatalf("Print of %q = %q", text, label.Print(q))
	}
	if e == api.OK && f != api.OK {
		t.Fatalf("%q is a series' text and no selector's", text)
	}
}

// goesRound holds a series' error and text against what is told, and reads the text.
func goesRound(t *testing.T, s api.Series) {
	t.Helper()
	e := label.Check(s)
	if want := tellCheck(s); e != want {
		t.Fatalf("Check(%+v) = %d, want %d", s, e, want)
	}
	text := label.Text(s)
	if e != api.OK {
		return
	}
	if want := tellText(s); text != want {
		t.Fatalf("Text(%+v) = %q, want %q", s, text, want)
	}
	if got, e := label.Parse(text); e != api.OK || !sameSeries(got, s) {
		t.Fatalf("Parse(%q) = %+v, %d, want %+v", text, got, e, s)
	}
}

// asksRound is the same of a selector whose parts are as told.
func asksRound(t *testing.T, q api.Selector) {
	t.Helper()
	text := label.Print(q)
	if want := tellPrint(q); text != want {
		t.Fatalf("Print(%+v) = %q, want %q", q, text, want)
	}
	if got, e := label.Selector(text); e != api.OK || !sameSelector(got, q) {
		t.Fatalf("Selector(%q) = %+v, %d, want %+v", text, got, e, q)
	}
}

const wordBytes = "abcdefghijklmnopqrstuvwxyzABCDEFGHIJKLMNOPQRSTUVWXYZ0123456789_-./"

// by draws words, series, selectors and texts.
type by struct{ *rand.Rand }

// word draws a word, mostly one of few, so that words meet.
func (r by) word() string {
	n := 1 + r.Intn(3)
	from := "ab"
	switch r.Intn(8) {
	case 0:
		n, from = 1+r.Intn(24), wordBytes
	case 1:
		n = 24
	}
	b := make([]byte, n)
	for i := range b {
		b[i] = from[r.Intn(len(from))]
	}
	return string(b)
}

// series draws a series that may be, and now and then one that may not.
func (r by) series() api.Series {
	s := api.Series{Name: r.word()}
	for range r.Intn(10) {
		s.Labels = append(s.Labels, api.Label{Name: r.word(), Value: r.word()})
	}
	if r.Intn(8) > 0 {
		slices.SortFunc(s.Labels, func(a, b api.Label) int { return strings.Compare(a.Name, b.Name) })
		s.Labels = slices.CompactFunc(s.Labels, func(a, b api.Label) bool { return a.Name == b.Name })
	}
	return s
}

func (r by) selector() api.Selector {
	var q api.Selector
	if r.Intn(3) > 0 {
		q.Name = r.word()
	}
	for range r.Intn(9) {
		q.L = append(q.L, api.Question{Name: r.word(), Sign: r.Intn(3), Value: r.word()})
	}
	return q
}

// spoilt changes a text at some places.
func (r by) spoilt(text string) string {
	const marks = "{}=!^,{}=!^,aZ5_-./ \x00\x7f\x80\xff\n\"@[`:"
	for range 1 + r.Intn(2) {
		i := r.Intn(len(text) + 1)
		j := min(len(text), i+r.Intn(3))
		put := ""
		if r.Intn(3) > 0 {
			put = string(marks[r.Intn(len(marks))])
		}
		text = text[:i] + put + text[j:]
	}
	return text
}

func TestSeriesByChance(t *testing.T) {
	r := by{rand.New(rand.NewSource(1))}
	for range 30000 {
		s := r.series()
		goesRound(t, s)
		holds(t, label.Text(s))
		holds(t, r.spoilt(label.Text(s)))
	}
}

func TestSelectorsByChance(t *testing.T) {
	r := by{rand.New(rand.NewSource(2))}
	for range 30000 {
		q := r.selector()
		asksRound(t, q)
		holds(t, label.Print(q))
		holds(t, r.spoilt(label.Print(q)))
	}
}

func TestChoiceByChance(t *testing.T) {
	r := by{rand.New(rand.NewSource(3))}
	chosen := 0
	for range 60000 {
		q, s := r.selector(), r.series()
		q.L = q.L[:len(q.L)/3]
		if r.Intn(2) == 0 {
			q.Name = s.Name
		}
		for i := range q.L { // ask of what is there
			if len(s.Labels) > 0 && r.Intn(4) > 0 {
				l := s.Labels[r.Intn(len(s.Labels))]
				q.L[i].Name, q.L[i].Value = l.Name, l.Value[:r.Intn(len(l.Value)+1)]
			}
		}
		got := label.Chooses(q, s)
		if want := tellChooses(q, s); got != want {
			t.Fatalf("Chooses(%+v, %+v) = %v, want %v", q, s, got, want)
		}
		if got {
			chosen++
		}
	}
	if chosen < 10000 || chosen > 50000 {
		t.Errorf("%d of 60000 were chosen", chosen)
	}
}

// each calls f with each text of n bytes of these.
func each(of string, n int, f func(string)) {
	if n == 0 {
		f("")
		return
	}
	each(of, n-1, func(ahead string) {
		for i := range len(of) {
			f(ahead + of[i:i+1])
		}
	})
}

// All texts of few bytes, alone and within braces.
func TestShortTexts(t *testing.T) {
	for n := range 7 {
		each("a{=!^,}", n, func(text string) { holds(t, text) })
	}
	for n := range 6 {
		each("ab{=!^,}", n, func(text string) {
			holds(t, "a{"+text+"}")
			holds(t, "{a=b,"+text+"}")
			holds(t, "a{a=b"+text)
		})
	}
}

// Each byte at each place of a text, in the place of another one and between two; each cut, and each growth by a byte.
func TestSpoiltTexts(t *testing.T) {
	for _, text := range []string{"", "a", "cpu{host=a,zone=1}", "{zone!=2,host^=a}", "-.{/=_}", "x{a=b,b^=a,a!=b}"} {
		holds(t, text)
		for i := range len(text) + 1 {
			holds(t, text[:i])
			holds(t, text[i:])
			for c := range 256 {
				put := string([]byte{byte(c)})
				holds(t, text[:i]+put+text[i:])
				if i < len(text) {
					holds(t, text[:i]+put+text[i+1:])
					holds(t, text[:i]+text[i+1:])
				}
			}
		}
	}
}
