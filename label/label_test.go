package label_test

import (
	"fmt"
	"math"
	"slices"
	"strings"
	"testing"

	"quaestor/api"
	"quaestor/label"
)

// long answers a word of so many bytes.
func long(n int) string { return strings.Repeat("w", n) }

// of answers a series by its name and its labels' names and values, one behind the other.
func of(name string, words ...string) api.Series {
	s := api.Series{Name: name}
	for i := 0; i+1 < len(words); i += 2 {
		s.Labels = append(s.Labels, api.Label{Name: words[i], Value: words[i+1]})
	}
	return s
}

// ask answers a selector of one question.
func ask(name string, sign int, value string) api.Selector {
	return api.Selector{L: []api.Question{{Name: name, Sign: sign, Value: value}}}
}

// may asks that s may be, and what its text is.
func may(t *testing.T, s api.Series, text string) {
	t.Helper()
	for range 2 { // the same answer each time
		if e := label.Check(s); e != api.OK {
			t.Errorf("Check(%+v) = %d, want OK", s, e)
		}
		if got := label.Text(s); got != text {
			t.Errorf("Text(%+v) = %q, want %q", s, got, text)
		}
		if got, e := label.Parse(text); e != api.OK || !sameSeries(got, s) {
			t.Errorf("Parse(%q) = %+v, %d, want %+v", text, got, e, s)
		}
	}
}

// mayNot asks that s may not be, and that it has a text of some kind.
func mayNot(t *testing.T, s api.Series) {
	t.Helper()
	if e := label.Check(s); e != api.ErrArg {
		t.Errorf("Check(%+v) = %d, want ErrArg", s, e)
	}
	label.Text(s)
}

// reads asks what selector a text is read as, and printed again.
func reads(t *testing.T, text string, want api.Selector) {
	t.Helper()
	for range 2 {
		if got, e := label.Selector(text); e != api.OK || !sameSelector(got, want) {
			t.Errorf("Selector(%q) = %+v, %d, want %+v", text, got, e, want)
		}
		if got := label.Print(want); got != text {
			t.Errorf("Print(%+v) = %q, want %q", want, got, text)
		}
	}
}

// neither asks that a text is no series' and no selector's, and that nothing stands beside the errors.
func neither(t *testing.T, text string) {
	t.Helper()
	noSeries(t, text)
	if q, e := label.Selector(text); e != api.ErrForm || q.Name != "" || len(q.L) != 0 {
		t.Errorf("Selector(%.100q) = %+v, %d, want ErrForm and nothing", text, q, e)
	}
}

func noSeries(t *testing.T, text string) {
	t.Helper()
	if s, e := label.Parse(text); e != api.ErrForm || s.Name != "" || len(s.Labels) != 0 {
		t.Errorf("Parse(%.100q) = %+v, %d, want ErrForm and nothing", text, s, e)
	}
}

// chooses asks which of some series a selector's text chooses.
func chooses(t *testing.T, text string, among []string, want ...string) {
	t.Helper()
	q, e := label.Selector(text)
	if e != api.OK {
		t.Fatalf("Selector(%q) = %d", text, e)
	}
	var got []string
	for _, a := range among {
		s, e := label.Parse(a)
		if e != api.OK {
			t.Fatalf("Parse(%q) = %d", a, e)
		}
		if label.Chooses(q, s) {
			got = append(got, a)
		}
	}
	if !slices.Equal(got, want) {
		t.Errorf("%q chooses %q, want %q", text, got, want)
	}
}

func TestExample(t *testing.T) {
	may(t, of("cpu", "host", "a", "zone", "1"), "cpu{host=a,zone=1}")
	reads(t, "{zone!=2,host^=a}", api.Selector{L: []api.Question{{Name: "zone", Sign: api.IsNot, Value: "2"}, {Name: "host", Sign: api.Begins, Value: "a"}}})
	chooses(t, "{zone!=2,host^=a}", []string{"cpu{host=a,zone=1}", "cpu{host=a,zone=2}", "cpu{host=ba,zone=1}", "cpu{zone=1}", "cpu{host=ab}"}, "cpu{host=a,zone=1}", "cpu{host=ab}")
}

// A word has letters, digits and four other bytes, as a name and as a value, wherever in it.
func TestBytesOfWords(t *testing.T) {
	for c := range 256 {
		one := string([]byte{byte(c)})
		good := strings.IndexByte(wordBytes, byte(c)) >= 0
		for _, w := range []string{one, one + "a", "a" + one, "a" + one + "a"} {
			for _, s := range []api.Series{of(w), of("n", w, "v"), of("n", "l", w)} {
				text := tellText(s)
				if good {
					may(t, s, text)
				} else {
					mayNot(t, s)
				}
				holds(t, text)
			}
		}
	}
	for _, w := range []string{"é", "aé", "ａ", "٣", "a b", " a", "a ", "a\x00", "\x00", "a\n"} {
		mayNot(t, of(w))
		mayNot(t, of("n", w, "v"))
		mayNot(t, of("n", "l", w))
		neither(t, w)
		neither(t, "n{"+w+"=v}")
		neither(t, "n{l="+w+"}")
	}
}

// A word has 1 to 24 bytes.
func TestLengthOfWords(t *testing.T) {
	for n := range 60 {
		w := long(n)
		series := []api.Series{of(w), of("n", w, "v"), of("n", "l", w), of("n", "a", "b", w, "v"), of("n", "a", "b", "l", w)}
		for _, s := range series {
			text := tellText(s)
			if n >= 1 && n <= 24 {
				may(t, s, text)
				continue
			}
			mayNot(t, s)
			noSeries(t, text)
		}
		for _, sign := range []string{"=", "!=", "^="} {
			for _, text := range []string{w + "{a" + sign + "b}", "n{" + w + sign + "v}", "{l" + sign + w + "}", "{a" + sign + "b," + w + sign + "v}"} {
				_, e := label.Selector(text)
				want := api.OK
				if n > 24 || n == 0 && text != "{a"+sign+"b}" {
					want = api.ErrForm
				}
				if e != want {
					t.Errorf("Selector(%q) = %d, want %d", text, e, want)
				}
			}
		}
	}
}

// At most eight labels, and at most eight questions.
func TestHowMany(t *testing.T) {
	s, q := of("n"), api.Selector{Name: "n"}
	for n := range 30 {
		if n <= 8 {
			may(t, s, tellText(s))
			reads(t, tellPrint(q), q)
		} else {
			mayNot(t, s)
			neither(t, tellText(s))
			neither(t, tellPrint(q))
			label.Print(q)
		}
		s.Labels = append(s.Labels, api.Label{Name: string(rune('A' + n)), Value: long(1 + n%24)})
		q.L = append(q.L, api.Question{Name: long(1 + n%24), Sign: n % 3, Value: "v"})
	}
}

// Names rise byte by byte, a beginning ahead of what goes on; questions stand in any order, and also twice.
func TestOrderOfNames(t *testing.T) {
	words := []string{"-", "-a", ".", "/", "0", "00", "9", "A", "Z", "Za", "_", "a", "a-", "a.", "aA", "aa", "ab", "b", long(23), long(24)}
	for i, a := range words {
		for j, b := range words {
			s := of("n", a, "v", b, "v")
			if i < j {
				may(t, s, "n{"+a+"=v,"+b+"=v}")
			} else {
				mayNot(t, s)
				noSeries(t, tellText(s))
			}
			reads(t, "n{"+a+"=v,"+b+"=v}", api.Selector{Name: "n", L: []api.Question{{Name: a, Value: "v"}, {Name: b, Value: "v"}}})
		}
	}
	mayNot(t, of("n", "a", "v", "b", "v", "a", "v"))
	mayNot(t, of("n", "a", "v", "c", "v", "b", "v"))
	mayNot(t, of("n", "a", "v", "b", "v", "b", "w"))
	may(t, of("n", "a", "z", "b", "y", "c", "x"), "n{a=z,b=y,c=x}")
}

// A selector's text may have no name, and be empty; a series' may not.
func TestNames(t *testing.T) {
	reads(t, "", api.Selector{})
	reads(t, "cpu", api.Selector{Name: "cpu"})
	reads(t, "-", api.Selector{Name: "-"})
	reads(t, "{a=b}", ask("a", api.Is, "b"))
	noSeries(t, "")
	noSeries(t, "{a=b}")
	mayNot(t, of(""))
	mayNot(t, of("", "a", "b"))
	mayNot(t, of("n", "", "b"))
	mayNot(t, of("n", "a", ""))
	mayNot(t, of("n{a=b}"))
	mayNot(t, of("n", "a=b,c", "d"))
	mayNot(t, of("n", "a", "b,c=d"))
}

// A series' labels are told by = alone.
func TestSignsOfSeries(t *testing.T) {
	noSeries(t, "n{a!=b}")
	noSeries(t, "n{a^=b}")
	noSeries(t, "n{a=b,c!=d}")
	noSeries(t, "n{a^=b,c=d}")
	reads(t, "n{a!=b}", api.Selector{Name: "n", L: ask("a", api.IsNot, "b").L})
	reads(t, "n{a^=b}", api.Selector{Name: "n", L: ask("a", api.Begins, "b").L})
}

func TestTextsOfNone(t *testing.T) {
	for _, text := range []string{
		"{", "}", "{}", "n{", "n}", "n{}", "n{a}", "n{a=}", "n{=b}", "n{=}", "n{a=b", "na=b}", "n{a=b}}", "n{{a=b}", "n{a=b}{c=d}", "n{a=b}m",
		"n{a=b,}", "n{,a=b}", "n{,}", "n{a=b,,c=d}", "n{a=b;c=d}", "n{a=b c=d}", "n{a=bc=d}", "n,m", "n=m", "n!=m", "=", "!=", "^=", ",",
		"n{a!b}", "n{a^b}", "n{a!}", "n{a^}", "n{a==b}", "n{a=!b}", "n{a=^b}", "n{a!^=b}", "n{a^!=b}", "n{a!!=b}", "n{a^^=b}", "n{a!==b}", "n{a!=b=c}",
		"n {a=b}", "n{ a=b}", "n{a =b}", "n{a= b}", "n{a=b }", "n{a=b} ", " n{a=b}", "n{a=b, c=d}", "n{a=b}\n", "n{a=b}\x00", "n{a=\"b\"}", "n{a>b}", "n{a~=b}", "n{a$=b}", "n{a*=b}",
	} {
		neither(t, text)
	}
}

// What a question asks, of a label that is so, that is otherwise, and that isn't there.
func TestQuestions(t *testing.T) {
	among := []string{"n", "n{a=b}", "n{a=bb}", "n{a=c}", "n{b=b}", "m{a=b}", "n{a=c,b=b}", "nn{a=b,b=c}", "n{a=B}"}
	chooses(t, "", among, among...)
	chooses(t, "n", among, "n", "n{a=b}", "n{a=bb}", "n{a=c}", "n{b=b}", "n{a=c,b=b}", "n{a=B}")
	chooses(t, "x", among)
	chooses(t, "N", among)
	chooses(t, "{a=b}", among, "n{a=b}", "m{a=b}", "nn{a=b,b=c}")
	chooses(t, "{a!=b}", among, "n", "n{a=bb}", "n{a=c}", "n{b=b}", "n{a=c,b=b}", "n{a=B}")
	chooses(t, "{a^=b}", among, "n{a=b}", "n{a=bb}", "m{a=b}", "nn{a=b,b=c}")
	chooses(t, "{a^=bb}", among, "n{a=bb}")
	chooses(t, "{a^=bbb}", among)
	chooses(t, "n{a^=b}", among, "n{a=b}", "n{a=bb}")
	chooses(t, "{a^=b,a!=b}", among, "n{a=bb}")
	chooses(t, "{a=b,a=c}", among)
	chooses(t, "{a!=b,a!=c}", among, "n", "n{a=bb}", "n{b=b}", "n{a=B}")
	chooses(t, "{b=b,a=c}", among, "n{a=c,b=b}")
	chooses(t, "{c!=x}", among, among...)
	chooses(t, "{c^=x}", among)
	chooses(t, "{a=b,a=b,a=b,a=b,a=b,a=b,a=b,b=c}", among, "nn{a=b,b=c}")
	chooses(t, "nn{b!=b}", among, "nn{a=b,b=c}")
}

// Selectors and series that have no texts are answered by their words, too.
func TestChoiceOfAny(t *testing.T) {
	twice := of("", "b", "x", "a", "yy", "b", "z")
	for _, c := range []struct {
		q    api.Selector
		s    api.Series
		want bool
	}{
		{api.Selector{}, api.Series{}, true},
		{api.Selector{Name: "n"}, api.Series{}, false},
		{api.Selector{Name: "{"}, of("{"), true},
		{ask("b", api.Is, "x"), twice, true},
		{ask("b", api.Is, "z"), twice, true},
		{ask("b", api.IsNot, "z"), twice, false},
		{ask("b", api.IsNot, "y"), twice, true},
		{ask("b", api.Begins, "z"), twice, true},
		{ask("a", api.Begins, ""), twice, true},
		{ask("c", api.Begins, ""), twice, false},
		{ask("", api.Is, ""), twice, false},
		{ask("", api.IsNot, ""), twice, true},
		{ask("", api.Is, ""), of("n", "", ""), true},
		{ask("a", api.Is, "y"), twice, false},
		{ask("a", api.Begins, "yyy"), twice, false},
	} {
		if got := label.Chooses(c.q, c.s); got != c.want {
			t.Errorf("Chooses(%+v, %+v) = %v", c.q, c.s, got)
		}
	}
}

// A question whose sign is none is answered by yes of no series; such a selector has a text of some kind.
func TestSignsOfNone(t *testing.T) {
	for _, sign := range []int{math.MinInt, -256, -1, 3, 4, 256, 257, 258, 1 << 32, math.MaxInt} {
		q := ask("a", sign, "b")
		label.Print(q)
		for _, s := range []api.Series{of("n"), of("n", "a", "b"), of("n", "a", "c"), {}} {
			if label.Chooses(q, s) {
				t.Errorf("Chooses(%+v, %+v) = true", q, s)
			}
			q := api.Selector{L: []api.Question{{Name: "z", Sign: api.IsNot, Value: "z"}, q.L[0]}}
			if label.Chooses(q, s) {
				t.Errorf("Chooses(%+v, %+v) = true", q, s)
			}
		}
	}
}

// Unlike series have unlike texts, as have unlike selectors.
func TestUnlikeTexts(t *testing.T) {
	words := []string{"a", "b", "ab", "ba", "-", "a-b"}
	seen := map[string]string{}
	series := func(s api.Series) {
		if label.Check(s) != api.OK {
			return
		}
		if was, there := seen[label.Text(s)]; there {
			t.Fatalf("%+v and %s have the text %q", s, was, label.Text(s))
		}
		seen[label.Text(s)] = fmt.Sprintf("%+v", s)
	}
	asked := map[string]string{}
	selector := func(q api.Selector) {
		if was, there := asked[label.Print(q)]; there {
			t.Fatalf("%+v and %s have the text %q", q, was, label.Print(q))
		}
		asked[label.Print(q)] = fmt.Sprintf("%+v", q)
	}
	for _, name := range append(words, "") {
		series(of(name))
		selector(api.Selector{Name: name})
		for i := range 6 * 6 {
			a, b := words[i/6], words[i%6]
			series(of(name, a, b))
			for sign := range 3 {
				selector(api.Selector{Name: name, L: ask(a, sign, b).L})
			}
			for j := range 6 * 6 {
				c, d := words[j/6], words[j%6]
				series(of(name, a, b, c, d))
				for signs := range 9 {
					selector(api.Selector{Name: name, L: []api.Question{{Name: a, Sign: signs / 3, Value: b}, {Name: c, Sign: signs % 3, Value: d}}})
				}
			}
		}
	}
	if len(seen) != 6*(1+36+15*36) || len(asked) != 7*(1+108+108*108) {
		t.Errorf("%d series and %d selectors", len(seen), len(asked))
	}
}

// What is handed in stays as it is, also what lies behind a list's length.
func TestHandedIn(t *testing.T) {
	labels := of("", "a", "b", "c", "d", "e", "f", "g", "h").Labels
	wasLabels := slices.Clone(labels)
	asks := []api.Question{{Name: "a", Sign: api.Is, Value: "b"}, {Name: "x", Sign: api.IsNot, Value: "y"}, {Name: "c", Sign: api.Begins, Value: "d"}, {Name: "z", Sign: 9, Value: "{"}}
	wasAsks := slices.Clone(asks)
	s := api.Series{Name: "n", Labels: labels[:2]}
	q := api.Selector{Name: "n", L: asks[:3]}
	may(t, s, "n{a=b,c=d}")
	reads(t, "n{a=b,x!=y,c^=d}", q)
	if !label.Chooses(q, s) {
		t.Error("not chosen")
	}
	if !slices.Equal(labels, wasLabels) || !slices.Equal(asks, wasAsks) {
		t.Errorf("handed in: now %+v, %+v", labels, asks)
	}
}

// What is answered may be written over, as far as its memory goes.
func TestWrittenOver(t *testing.T) {
	const text = "n{a=b,c=d,e=f}"
	for range 3 {
		s, _ := label.Parse(text)
		q, _ := label.Selector(text)
		if !sameSeries(s, of("n", "a", "b", "c", "d", "e", "f")) || label.Print(q) != text || label.Text(s) != text {
			t.Fatalf("%q is read as %+v, %+v", text, s, q)
		}
		clear(s.Labels[:cap(s.Labels)])
		if label.Print(q) != text {
			t.Fatalf("%+v", q)
		}
		clear(q.L[:cap(q.L)])
	}
	whole := make([]api.Question, 8)
	for i := range whole {
		whole[i] = api.Question{Name: "a", Value: long(24)}
	}
	q := api.Selector{Name: "n", L: whole}
	printed := label.Print(q)
	was := api.Selector{Name: "n", L: slices.Clone(whole)}
	clear(whole)
	reads(t, printed, was)
}

// Texts and lists beyond any limit: an error, before more is made than the limits allow.
func TestGreat(t *testing.T) {
	const n = 1 << 20
	for _, text := range []string{
		strings.Repeat("a", n), strings.Repeat("{", n), strings.Repeat(",", n), strings.Repeat("=", n), strings.Repeat("\xff", n),
		"n{" + strings.Repeat("a=b,", n) + "a=b}", "{" + strings.Repeat("a", n) + "=b}", "{a=" + strings.Repeat("b", n) + "}", "{a" + strings.Repeat("=", n) + "b}",
	} {
		neither(t, text)
		if made := testing.AllocsPerRun(1, func() { label.Selector(text) }); made > 20 {
			t.Errorf("Selector(%.20q..) makes %v things", text, made)
		}
		mayNotQuietly(t, of(text))
		mayNotQuietly(t, of("n", text, "v"))
		mayNotQuietly(t, of("n", "l", text))
	}
	many := make([]api.Label, n)
	for i := range many {
		many[i] = api.Label{Name: fmt.Sprintf("%08d", i), Value: "v"}
	}
	mayNotQuietly(t, api.Series{Name: "n", Labels: many})
	asks := make([]api.Question, n)
	for i := range asks {
		asks[i] = api.Question{Name: "00000000", Sign: i % 3 * 2 % 3, Value: "v"}
	}
	label.Print(api.Selector{Name: "n", L: asks})
	if label.Chooses(api.Selector{L: asks}, of("n", "00000000", "v")) {
		t.Error("a label is and isn't")
	}
	if !label.Chooses(ask("00000007", api.Is, "v"), api.Series{Labels: many}) {
		t.Error("a label of many isn't found")
	}
}

// mayNotQuietly is mayNot without telling a great series.
func mayNotQuietly(t *testing.T, s api.Series) {
	t.Helper()
	if e := label.Check(s); e != api.ErrArg {
		t.Errorf("Check of a great series = %d, want ErrArg", e)
	}
	label.Text(s)
}
