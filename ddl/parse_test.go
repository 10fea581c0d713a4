package ddl

import (
	"regexp"
	"slices"
	"strings"
	"testing"

	"levee/api"
	"levee/lex"
)

// pattern is the grammar, of texts in which each token is a word with a blank behind it: see classes.
var pattern = func() *regexp.Regexp {
	whole := `^(table NAME\( COLUMN(, COLUMN)*\) (check EXPR)*|view NAMEfrom NAME(join NAMEon NUMBER = NUMBER )?(where EXPR)?pick (NUMBER (, NUMBER )*)?(group (AGG(, AGG)*)?)?)$`
	for _, part := range [][2]string{
		{"COLUMN", `NAME(bool|int|text) (null )?(unique )?(ref NAME(restrict|cascade|setnull) )?`},
		{"AGG", `(count |(sum|min|max) NUMBER )`},
		{"EXPR", `\[ ((STEP|NUMBER|OTHER|TEXT|true|false|null|[-+*=<]|and|or|not|null \?) )*\] `},
		{"NAME", `(WORD|STEP) `},
	} {
		whole = strings.ReplaceAll(whole, part[0], part[1])
	}
	return regexp.MustCompile(whole)
}()

var columnStep = regexp.MustCompile(`^c([0-9]|[1-9][0-9])$`)

// classes returns the tokens as the pattern has them: numbers of columns, other numbers, texts, words that may be steps for columns, and other words that may be names are one capital word each.
func classes(tokens []api.Tok) string {
	var b strings.Builder
	for _, x := range tokens {
		switch {
		case x.V.Kind == api.Text:
			b.WriteString("TEXT ")
		case x.V.Kind == api.Int && x.V.N >= 0 && x.V.N <= 99:
			b.WriteString("NUMBER ")
		case x.V.Kind == api.Int:
			b.WriteString("OTHER ")
		case x.Kind == api.TokSign || slices.Contains(quotedWords, x.Text):
			b.WriteString(x.Text + " ")
		case columnStep.MatchString(x.Text):
			b.WriteString("STEP ")
		default:
			b.WriteString("WORD ")
		}
	}
	return b.String()
}

// checkParse holds Parse of tokens, which are too few for the limits of lengths, against the grammar, and what it answers against its print.
func checkParse(t *testing.T, tokens []api.Tok) {
	t.Helper()
	s := lex.Print(tokens)
	d, bad := Parse(s)
	switch {
	case !pattern.MatchString(classes(tokens)):
		if bad != api.ErrParse || !equal(d, api.Def{}) {
			t.Fatalf("%q: %s, error %d; want none and error %d", s, shown(d), bad, api.ErrParse)
		}
	case bad != api.OK:
		t.Fatalf("%q: error %d", s, bad)
	default:
		if printed, want := Print(d), strings.Replace(s, " where [ ]", "", 1); printed != want || !May(d) {
			t.Fatalf("%q: %s, whose print is %q, want %q", s, shown(d), printed, want)
		}
		checkPrint(t, d)
	}
}

func tokensOf(t *testing.T, s string) []api.Tok {
	t.Helper()
	l, bad := lex.Lex(s)
	if bad != api.OK {
		t.Fatalf("%q: error %d", s, bad)
	}
	return l
}

// vocabulary holds every kind of token.
func vocabulary(t *testing.T) []api.Tok {
	return tokensOf(t, strings.Join(quotedWords, " ")+" ( ) [ ] , = < + - * ? t k c c0 c5 c99 c00 c01 c100 0 1 99 100 -1 9223372036854775807 '' 'a'")
}

func seeds() []string {
	return []string{
		"table t ( k int )",
		"table c5 ( c int , c0 text null unique ref u cascade , b bool unique ref c5 setnull , x text null ref c restrict ) check [ c0 0 < ] check [ ] check [ c1 null ? c2 true = or ]",
		"table t ( a text unique ) check [ null null ? 'a' + - -1 * = < and or not false ]",
		"view v from t pick",
		"view v from t pick group",
		"view v from t pick 99 , 0 group sum 5",
		"view v from t where [ ] pick 1",
		"view c5 from c join c0 on 0 = 99 pick group count",
		"view v from t join u on 1 = 0 where [ c0 -3 = not ] pick 1 , 0 group count , sum 0 , min 1 , max 2",
	}
}

func spliced(l []api.Tok, from, to int, in ...api.Tok) []api.Tok {
	return slices.Concat(l[:from], in, l[to:])
}

// P7.1, P7.3: definitions of which any part is left out, doubled, or moved to any other place.
func TestParseMovedParts(t *testing.T) {
	for _, s := range seeds() {
		l := tokensOf(t, s)
		checkParse(t, l)
		for from := range l {
			for to := from + 1; to <= len(l); to++ {
				part := l[from:to]
				checkParse(t, spliced(l, from, to))
				checkParse(t, spliced(l, to, to, part...))
				rest := spliced(l, from, to)
				for at := range len(rest) + 1 {
					checkParse(t, spliced(rest, at, at, part...))
				}
			}
		}
	}
}

// P7.1, P7.3: definitions with any token more, with any token in the place of another one, and with any two in the places of two neighbours.
func TestParseOtherTokens(t *testing.T) {
	all := vocabulary(t)
	for _, s := range seeds() {
		l := tokensOf(t, s)
		for at := range len(l) + 1 {
			for _, x := range all {
				checkParse(t, spliced(l, at, at, x))
				if at < len(l) {
					checkParse(t, spliced(l, at, at+1, x))
				}
				if at+1 < len(l) && len(l) < 20 {
					for _, y := range all {
						checkParse(t, spliced(l, at, at+2, x, y))
					}
				}
			}
		}
	}
}

// P7.1: one definition with a part of another one, and behind another one.
func TestParseMixed(t *testing.T) {
	for _, s := range seeds() {
		for _, other := range seeds() {
			a, b := tokensOf(t, s), tokensOf(t, other)
			for i := range len(a) + 1 {
				for j := range len(b) + 1 {
					checkParse(t, slices.Concat(a[:i], b[j:]))
				}
			}
			checkParse(t, slices.Concat(a, b))
		}
	}
}

// P7.1, P7.3: all ways on of some beginnings, by up to five tokens.
func TestParseAllEnds(t *testing.T) {
	for _, c := range []struct {
		begin, words, end string
	}{
		{"", "table t ( k int )", ""},
		{"", "view v from t pick 1", ""},
		{"table t ( k int", "null unique ref u cascade , text )", ")"},
		{"table t ( k int )", "check [ ] c0 null ?", ""},
		{"table t ( k int ) check [", "null ? c5 0 'a' not - ]", "]"},
		{"view v from t", "join u on 0 = pick", "pick"},
		{"view v from t join u", "on 0 1 = pick where [ ]", "pick"},
		{"view v from t", "where [ c0 null ? ] pick", "pick"},
		{"view v from t pick", "0 99 100 , group count sum", ""},
		{"view v from t pick group", "0 99 , count sum min max", ""},
	} {
		words, end := tokensOf(t, c.words), tokensOf(t, c.end)
		var extend func(l []api.Tok, most int)
		extend = func(l []api.Tok, most int) {
			checkParse(t, l)
			checkParse(t, slices.Concat(l, end))
			if most == 0 {
				return
			}
			for _, x := range words {
				extend(slices.Concat(l, []api.Tok{x}), most-1)
			}
		}
		extend(tokensOf(t, c.begin), 5)
	}
}
