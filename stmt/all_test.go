package stmt

import (
	"regexp"
	"slices"
	"strconv"
	"strings"
	"testing"

	"levee/api"
	"levee/lex"
)

// pattern is the grammar, of texts in which each token is a word with a blank behind it: see classes.
var pattern = func() *regexp.Regexp {
	whole := `^(get NAMEVALUE|scan NAMEVALUEVALUE|put NAMEROW|set NAMEROW|cut NAMEVALUE|look NAME)$`
	for _, part := range [][2]string{
		{"ROW", `\( (VALUE(, VALUE)*)?\) `},
		{"NAME", `(WORD|get|scan|put|set|cut|look) `},
		{"VALUE", `(NUMBER|TEXT|true|false|null) `},
	} {
		whole = strings.ReplaceAll(whole, part[0], part[1])
	}
	return regexp.MustCompile(whole)
}()

// classes returns the tokens as the pattern has them: numbers, texts, and words that may be names but are none of statements are one capital word each.
func classes(tokens []api.Tok) string {
	var b strings.Builder
	for _, x := range tokens {
		switch {
		case x.V.Kind == api.Text:
			b.WriteString("TEXT ")
		case x.V.Kind == api.Int:
			b.WriteString("NUMBER ")
		case x.Kind == api.TokSign || slices.Contains(quotedWords(), x.Text) || slices.Contains(ownWords(), x.Text):
			b.WriteString(x.Text + " ")
		default:
			b.WriteString("WORD ")
		}
	}
	return b.String()
}

// meant is the statement of tokens that are one: its values are all that stands behind the name, but brackets and commas.
func meant(tokens []api.Tok) api.Stmt {
	x := api.Stmt{Do: slices.Index(ownWords(), tokens[0].Text), Name: tokens[1].Text}
	for _, y := range tokens[2:] {
		switch y.Text {
		case "(", ")", ",":
		case "":
			x.Row = append(x.Row, y.V)
		default:
			x.Row = append(x.Row, map[string]api.Value{"true": yes(), "false": no(), "null": null()}[y.Text])
		}
	}
	return x
}

// checkParse holds Parse of tokens, which are too few for the limit of 40 values, against the grammar, and what it answers against its print.
func checkParse(t *testing.T, tokens []api.Tok) {
	t.Helper()
	s := lex.Print(tokens)
	if pattern.MatchString(classes(tokens)) {
		expectPair(t, s, meant(tokens))
	} else {
		expectRefused(t, s, api.ErrParse)
	}
	if t.Failed() {
		t.FailNow()
	}
}

func tokensOf(t *testing.T, s string) []api.Tok {
	t.Helper()
	l, bad := lex.Lex(s)
	if bad != api.OK {
		t.Fatalf("%q: error %d", s, bad)
	}
	return l
}

func seeds() []string {
	return []string{"get t 1", "get get null", "scan t -1 'z'", "scan c5 null true", "put t ( )", "put t ( 1 )", "put put ( 1 , 'it''s' )", "put t ( 1 , null , true )", "set t ( )", "set t ( false , null )", "set look ( '' , -1 , 'a' , 99 )", "cut t 'a'", "cut set true", "look v", "look look"}
}

// vocabulary returns every kind of token.
func vocabulary(t *testing.T) []api.Tok {
	return tokensOf(t, strings.Join(slices.Concat(quotedWords(), ownWords()), " ")+" ( ) [ ] , = < + - * ? t c c0 c01 0 1 -1 9223372036854775807 '' 'a' 'null' '(' ')' ',' 'get'")
}

func spliced(l []api.Tok, from, to int, in ...api.Tok) []api.Tok {
	return slices.Concat(l[:from], in, l[to:])
}

// P8.1, P8.2: statements of which any part is left out, doubled, or moved to any other place.
func TestParseMovedParts(t *testing.T) {
	for _, s := range seeds() {
		l := tokensOf(t, s)
		checkParse(t, l)
		for from := range l {
			for to := from + 1; to <= len(l); to++ {
				part, rest := l[from:to], spliced(l, from, to)
				checkParse(t, rest)
				checkParse(t, spliced(l, to, to, part...))
				for at := range len(rest) + 1 {
					checkParse(t, spliced(rest, at, at, part...))
				}
			}
		}
	}
}

// P8.1, P8.2: statements with any token more, with any token in the place of another one, and with any two in the places of two neighbours.
func TestParseOtherTokens(t *testing.T) {
	all := vocabulary(t)
	for _, s := range seeds() {
		l := tokensOf(t, s)
		for at := range len(l) + 1 {
			for _, x := range all {
				checkParse(t, spliced(l, at, at, x))
				if at < len(l) {
					checkParse(t, spliced(l, at, at+1, x))
				}
				if at+1 < len(l) {
					for _, y := range all {
						checkParse(t, spliced(l, at, at+2, x, y))
					}
				}
			}
		}
	}
}

// P8.1: one statement with a part of another one, and behind another one.
func TestParseMixed(t *testing.T) {
	for _, s := range seeds() {
		for _, other := range seeds() {
			a, b := tokensOf(t, s), tokensOf(t, other)
			for i := range len(a) + 1 {
				for j := range len(b) + 1 {
					checkParse(t, slices.Concat(a[:i], b[j:]))
				}
			}
			checkParse(t, slices.Concat(a, b))
		}
	}
}

// P8.1, P8.2: all ways on of some beginnings, by up to so many tokens.
func TestParseAllEnds(t *testing.T) {
	for _, c := range []struct {
		begin, words, end string
		most              int
	}{
		{"", "get scan put set cut look t null 1 ( )", "", 4},
		{"get t", "1 'a' null true t ( ) ,", "", 4},
		{"scan t", "1 'a' null false t ( ) ,", "", 4},
		{"cut t", "1 'a' null true t ( ) ,", "", 4},
		{"look", "v look null 1 ( ) ,", "", 4},
		{"put t", "( ) , 1 null t", ")", 5},
		{"put t (", "( ) , 1 'a' t", ")", 5},
		{"set t", "( ) , 'a' true", ")", 6},
		{"set t (", ") , 1 null", ")", 7},
		{"put t ( 1 , 2", ") , 1 null", ")", 7},
	} {
		words, end := tokensOf(t, c.words), tokensOf(t, c.end)
		var extend func(l []api.Tok, most int)
		extend = func(l []api.Tok, most int) {
			checkParse(t, l)
			checkParse(t, slices.Concat(l, end))
			if most == 0 {
				return
			}
			for _, x := range words {
				extend(slices.Concat(l, []api.Tok{x}), most-1)
			}
		}
		extend(tokensOf(t, c.begin), c.most)
	}
}

// written is v as the chapters have it; false, if v is not valid.
func written(v api.Value) (string, bool) {
	switch {
	case v == null():
		return "null", true
	case v == yes():
		return "true", true
	case v == no():
		return "false", true
	case v == num(v.N):
		return strconv.Itoa(v.N), true
	case v == text(v.S) && len(v.S) <= 1000:
		return "'" + strings.ReplaceAll(v.S, "'", "''") + "'", true
	}
	return "", false
}

var namePattern = regexp.MustCompile(`^[a-z][a-z0-9_]{0,29}$`)

// wanted is the print of x, as the chapter says; empty, if there is none.
func wanted(x api.Stmt) string {
	if !namePattern.MatchString(x.Name) || slices.Contains(quotedWords(), x.Name) || len(x.Row) > 40 {
		return ""
	}
	var l []string
	for _, v := range x.Row {
		s, ok := written(v)
		if !ok {
			return ""
		}
		l = append(l, s)
	}
	row := "( )"
	if len(l) > 0 {
		row = "( " + strings.Join(l, " , ") + " )"
	}
	s := ""
	switch {
	case x.Do == 0 && len(l) == 1:
		s = "get " + x.Name + " " + l[0]
	case x.Do == 1 && len(l) == 2:
		s = "scan " + x.Name + " " + l[0] + " " + l[1]
	case x.Do == 2:
		s = "put " + x.Name + " " + row
	case x.Do == 3:
		s = "set " + x.Name + " " + row
	case x.Do == 4 && len(l) == 1:
		s = "cut " + x.Name + " " + l[0]
	case x.Do == 5 && len(l) == 0:
		s = "look " + x.Name
	}
	if len(s) > 20000 {
		return ""
	}
	return s
}

// checkPrint holds Print of x against the chapter, and Parse of the print against x.
func checkPrint(t *testing.T, x api.Stmt) {
	t.Helper()
	want := wanted(x)
	expectPrinted(t, x, want)
	if want != "" {
		expectParsed(t, want, x)
	}
	if t.Failed() {
		t.FailNow()
	}
}

// P8.1, P8.2: statements made of all parts out of a few, valid and not.
func TestPrintAll(t *testing.T) {
	values := slices.Concat(badValues()[:10], []api.Value{null(), yes(), no(), num(0), num(-7), text(""), text("it's\n"), text("(  )"), text(strings.Repeat("'", 1000)), text(strings.Repeat("x", 1001)), {Kind: api.Kinds}, {Kind: -1}})
	rows := []api.Row{nil, {}}
	for _, v := range values {
		rows = append(rows, api.Row{v})
		for _, u := range values {
			rows = append(rows, api.Row{v, u})
			for _, w := range []api.Value{null(), num(5), text("a , b"), {Kind: api.Bool, N: 2}} {
				rows = append(rows, api.Row{v, u, w})
			}
		}
	}
	for n := 4; n <= 42; n++ {
		rows = append(rows, slices.Repeat(api.Row{num(n)}, n), make(api.Row, n))
	}
	for do := -1; do <= api.Sts; do++ {
		for _, name := range []string{"t", "c5", "look", "", "int", "A", "t (", "null"} {
			for _, row := range rows {
				checkPrint(t, api.Stmt{Do: do, Name: name, Row: row})
			}
		}
	}
}

// P8.1, P8.2: each valid value beside each other one.
func TestPrintAllPairs(t *testing.T) {
	for _, v := range someValues() {
		for _, u := range someValues() {
			checkPrint(t, of(api.StScan, "t", v, u))
			checkPrint(t, of(api.StPut, "t", v, u))
			checkPrint(t, of(api.StSet, "t", u, v, u))
		}
	}
}
