package lex

import (
	"fmt"
	"math"
	"math/big"
	"regexp"
	"slices"
	"strings"
	"testing"

	"levee/api"
	"levee/value"
)

func word(s string) api.Tok { return api.Tok{Kind: api.TokWord, Text: s} }
func mark(s string) api.Tok { return api.Tok{Kind: api.TokSign, Text: s} }
func held(v api.Value) api.Tok {
	return api.Tok{Kind: api.TokValue, V: v}
}
func num(n int) api.Tok     { return held(api.Value{Kind: api.Int, N: n}) }
func text(s string) api.Tok { return held(api.Value{Kind: api.Text, S: s}) }

func list(l ...api.Tok) []api.Tok { return l }

// allSigns is written out once more, so that a sign that the program forgets is missed here.
func allSigns() []string {
	return []string{"(", ")", "[", "]", ",", "=", "<", "+", "-", "*", "?"}
}

func short(s string) string {
	if len(s) > 200 {
		return s[:200] + ".."
	}
	return s
}

// shown keeps what is told of tokens short, however many there are.
func shown(l ...api.Tok) string { return short(fmt.Sprintf("%#v", l)) }

func expectTokens(t *testing.T, s string, want ...api.Tok) {
	t.Helper()
	if got, bad := Lex(s); bad != api.OK || !slices.Equal(got, want) {
		t.Errorf("%q: %s, error %d; want %s", short(s), shown(got...), bad, shown(want...))
	}
}

func expectRefused(t *testing.T, s string) {
	t.Helper()
	if got, bad := Lex(s); bad != api.ErrLex || len(got) != 0 {
		t.Errorf("%q: %s, error %d; want none and error %d", short(s), shown(got...), bad, api.ErrLex)
	}
}

// validTokens holds valid tokens: ordinary ones and those at the edges.
func validTokens() []api.Tok {
	l := list(
		word("a"), word("z"), word("c"), word("c0"), word("table"), word("null"), word("true"), word("a_"), word("a__b_1"), word("a0123456789_"), word("x9z"),
		word(strings.Repeat("q", 29)), word(strings.Repeat("q", 30)), word("a"+strings.Repeat("_", 29)), word("a"+strings.Repeat("9", 29)), word("abcdefghijklmnopqrstuvwxyz"),
		num(0), num(1), num(-1), num(9), num(10), num(-10), num(100), num(1<<32), num(math.MaxInt-1), num(math.MaxInt), num(math.MinInt+1), num(math.MinInt),
		text(""), text("a"), text(" "), text("  a  "), text("'"), text("''"), text("'''"), text("'a"), text("a'"), text("a'b"), text("a''b"), text("'a'b'"), text("' '"), text(" ' "),
		text("-1"), text("(a, 'b')"), text("A_!\\\""), text("\n"), text("a\r\nb\tc"), text("\x00"), text("\x7f\x80\xff"), text("\xc3\xa9\xe2\x82\xac"),
		text(strings.Repeat("x", 999)), text(strings.Repeat("x", 1000)), text(strings.Repeat("'", 1000)), text(strings.Repeat("\xff", 1000)), text(strings.Repeat("'\n", 500)),
	)
	for _, s := range allSigns() {
		l = append(l, mark(s))
	}
	return l
}

// invalidTokens holds tokens that are not valid, each for one reason.
func invalidTokens() []api.Tok {
	l := list(
		api.Tok{}, mark(""), held(api.Value{}),
		word("A"), word("aB"), word("Ab"), word("_"), word("_a"), word("0"), word("1a"), word("9"), word("-a"), word("a-"), word(" "), word(" a"), word("a "), word("a b"), word("a\n"), word("\na"), word("a\x00"), word("a\x00b"), word("a!"), word("a'"), word("a.b"), word("a,"), word("a("), word("+"), word("'a'"), word("\xc3\xa9"), word("a\xc3\xa9"), word("a\x80"), word("`"), word("{"), word("a`"), word("a{"), word("a/"), word("a:"),
		word(strings.Repeat("a", 31)), word(strings.Repeat("a", 60)), word(strings.Repeat("a", 100000)), word("a"+strings.Repeat("_", 30)),
		mark("!"), mark("a"), mark("1"), mark(" "), mark("'"), mark("_"), mark("."), mark(">"), mark("/"), mark("{"), mark(")("), mark("()"), mark("(("), mark("+-"), mark("=<"), mark("- "), mark(" -"), mark("(\x00"), mark("\x00"), mark("\n"), mark("\x80"), mark("\xff"), mark(strings.Join(allSigns(), "")),
		held(api.Value{Kind: api.Null, N: 1}), held(api.Value{Kind: api.Null, S: "a"}), held(value.Truth(false)), held(value.Truth(true)), held(api.Value{Kind: api.Bool, N: 2}),
		held(api.Value{Kind: api.Int, N: 1, S: "a"}), held(api.Value{Kind: api.Int, S: "0"}),
		held(api.Value{Kind: api.Text, N: 1}), held(api.Value{Kind: api.Text, N: -1, S: "a"}), text(strings.Repeat("x", 1001)), text(strings.Repeat("'", 1001)), text(strings.Repeat("x", 100000)),
		held(api.Value{Kind: api.Kinds}), held(api.Value{Kind: -1}), held(api.Value{Kind: math.MaxInt}), held(api.Value{Kind: math.MinInt, N: 1}),
	)
	for _, kind := range []int{api.TokKinds, 4, -1, 100, 256, 257, 258, math.MaxInt, math.MinInt} {
		l = append(l, api.Tok{Kind: kind}, api.Tok{Kind: kind, Text: "a"}, api.Tok{Kind: kind, Text: "("}, api.Tok{Kind: kind, V: num(1).V})
	}
	for _, v := range []api.Value{num(0).V, num(1).V, text("").V, text("a").V, value.Truth(false), {N: 1}, {S: "a"}, {Kind: api.Kinds}, {Kind: -1}} {
		l = append(l, api.Tok{Kind: api.TokWord, Text: "a", V: v}, api.Tok{Kind: api.TokSign, Text: "(", V: v})
	}
	for _, v := range []api.Value{num(1).V, text("a").V, text("").V} {
		for _, s := range []string{"a", "1", "'a'", "(", " ", "\x00", value.Text(v)} {
			l = append(l, api.Tok{Kind: api.TokValue, Text: s, V: v})
		}
	}
	return l
}

// P6.1: tokens that are valid, and tokens that are not.
func TestMay(t *testing.T) {
	for i, x := range validTokens() {
		if !May(x) {
			t.Errorf("valid token %d is not valid: %s", i, shown(x))
		}
	}
	for i, x := range invalidTokens() {
		if May(x) {
			t.Errorf("invalid token %d is valid: %s", i, shown(x))
		}
	}
}

// P6.1: one kind's token is no other kind's.
func TestMayOtherKinds(t *testing.T) {
	for i, x := range validTokens() {
		for kind := -1; kind <= api.TokKinds; kind++ {
			other := x
			other.Kind = kind
			if got, want := May(other), kind == x.Kind; got != want {
				t.Errorf("token %d as one of kind %d: %v, want %v", i, kind, got, want)
			}
		}
	}
}

// P6.1: each byte as a word of its own, inside a word, and as a sign.
func TestMayBytes(t *testing.T) {
	for b := range 256 {
		s := string([]byte{byte(b)})
		first := b >= 'a' && b <= 'z'
		later := first || b >= '0' && b <= '9' || b == '_'
		for _, c := range []struct {
			x    api.Tok
			want bool
		}{
			{word(s), first}, {word(s + "a"), first}, {word("a" + s), later}, {word("a" + s + "a"), later},
			{mark(s), slices.Contains(allSigns(), s)}, {mark(s + s), false}, {text(s), true},
		} {
			if got := May(c.x); got != c.want {
				t.Errorf("byte %d, %s: %v, want %v", b, shown(c.x), got, c.want)
			}
		}
	}
}

// P6.1: how long words and texts may be.
func TestMayLengths(t *testing.T) {
	for n := range 100 {
		if got, want := May(word(strings.Repeat("w", n))), n >= 1 && n <= 30; got != want {
			t.Errorf("a word of %d bytes: %v, want %v", n, got, want)
		}
	}
	for _, n := range []int{0, 1, 2, 500, 998, 999, 1000, 1001, 1002, 1500, 2000, 2001, 20000} {
		for _, s := range []string{"w", "'", "\x00", "\xff"} {
			if got, want := May(text(strings.Repeat(s, n))), n <= 1000; got != want {
				t.Errorf("a text of %d times %q: %v, want %v", n, s, got, want)
			}
		}
	}
}

// P6.2: cases written out by hand.
func TestLexCases(t *testing.T) {
	expectTokens(t, "a(-1)", word("a"), mark("("), num(-1), mark(")"))
	expectTokens(t, "table t(k int, a text null ref u cascade) check [c0 0 <]",
		word("table"), word("t"), mark("("), word("k"), word("int"), mark(","), word("a"), word("text"), word("null"), word("ref"), word("u"), word("cascade"), mark(")"),
		word("check"), mark("["), word("c0"), num(0), mark("<"), mark("]"))
	expectTokens(t, "put t (1, null)", word("put"), word("t"), mark("("), num(1), mark(","), word("null"), mark(")"))
	expectTokens(t, "where [c0 null ?]", word("where"), mark("["), word("c0"), word("null"), mark("?"), mark("]"))
	expectTokens(t, "a_1 b2c x__", word("a_1"), word("b2c"), word("x__"))
	expectTokens(t, "on 0=1", word("on"), num(0), mark("="), num(1))
}

// P6.2: no tokens; blanks around tokens; tokens that need no blanks between.
func TestLexBlanks(t *testing.T) {
	for _, s := range []string{"", " ", "  ", strings.Repeat(" ", 19999), strings.Repeat(" ", 20000)} {
		expectTokens(t, s)
	}
	for _, x := range validTokens() {
		s := Print(list(x))
		for _, around := range []string{s, " " + s, s + " ", " " + s + " ", "   " + s + "  "} {
			expectTokens(t, around, x)
		}
	}
	for _, s := range []string{"a b", " a b ", "a  b", "  a    b  "} {
		expectTokens(t, s, word("a"), word("b"))
	}
	expectTokens(t, "ab", word("ab"))
	expectTokens(t, "a b", word("a"), word("b"))
	expectTokens(t, "12", num(12))
	expectTokens(t, "1 2", num(1), num(2))
	expectTokens(t, "1a", num(1), word("a"))
	expectTokens(t, "0x1", num(0), word("x1"))
	expectTokens(t, "a'b'c", word("a"), text("b"), word("c"))
	expectTokens(t, "1'b'2", num(1), text("b"), num(2))
	expectTokens(t, "a(b)c[d]e,f=g<h+i*j?k", word("a"), mark("("), word("b"), mark(")"), word("c"), mark("["), word("d"), mark("]"), word("e"), mark(","), word("f"), mark("="), word("g"), mark("<"), word("h"), mark("+"), word("i"), mark("*"), word("j"), mark("?"), word("k"))
	expectTokens(t, "1(2)3[4]5,6=7<8+9*0?1", num(1), mark("("), num(2), mark(")"), num(3), mark("["), num(4), mark("]"), num(5), mark(","), num(6), mark("="), num(7), mark("<"), num(8), mark("+"), num(9), mark("*"), num(0), mark("?"), num(1))
}

// P6.2: words, and what is none.
func TestLexWords(t *testing.T) {
	longest := strings.Repeat("w", 30)
	for _, s := range []string{"a", "z", "az", "a0", "a9", "a_", "a_0", "a__", "a_b9_c", longest, "a" + strings.Repeat("_", 29), "z" + strings.Repeat("9", 29)} {
		expectTokens(t, s, word(s))
		expectTokens(t, s+" "+s, word(s), word(s))
		expectTokens(t, s+"("+s+")", word(s), mark("("), word(s), mark(")"))
	}
	for _, s := range []string{longest + "w", longest + "0", longest + "_", strings.Repeat("w", 60), strings.Repeat("w", 20000), "_", "_a", "__", "_1", "A", "Z", "Ab", "aB", "aBc", "1_", "1_a", "-_", "1A", "a A", "A a", "( A )", "a.b", "a:b"} {
		expectRefused(t, s)
		expectRefused(t, "a "+s)
		expectRefused(t, s+" a")
	}
	// Each on its own is no word longer than 30 bytes.
	expectTokens(t, longest+" w", word(longest), word("w"))
	expectTokens(t, longest+"-1", word(longest), num(-1))
}

// P6.2: numbers, and what is none.
func TestLexNumbers(t *testing.T) {
	for s, n := range map[string]int{
		"0": 0, "1": 1, "9": 9, "10": 10, "99": 99, "100": 100, "1000000": 1000000, "4294967296": 1 << 32,
		"-1": -1, "-9": -9, "-10": -10, "-100": -100,
		"9223372036854775806": math.MaxInt - 1, "9223372036854775807": math.MaxInt,
		"-9223372036854775807": math.MinInt + 1, "-9223372036854775808": math.MinInt,
	} {
		expectTokens(t, s, num(n))
		expectTokens(t, "["+s+"]", mark("["), num(n), mark("]"))
	}
	for _, s := range []string{
		"00", "01", "007", "000", "0123", "-0", "-00", "-01", "-007", "- 01", "00 1",
		"9223372036854775808", "-9223372036854775809", "9223372036854775810", "9999999999999999999", "-9999999999999999999", "10000000000000000000", "18446744073709551615", "18446744073709551616", "18446744073709551617", "-18446744073709551617",
		"09223372036854775807", "-09223372036854775808", strings.Repeat("9", 20000), strings.Repeat("0", 20000), "-" + strings.Repeat("1", 19999), strings.Repeat("0", 40) + "1",
		"1.5", "1_000", "1e+A", "1:2",
	} {
		expectRefused(t, s)
		expectRefused(t, "a "+s)
		expectRefused(t, s+" a")
		expectRefused(t, "("+s+")")
	}
}

// P6.2: a minus is a sign, unless a digit follows it directly.
func TestLexMinus(t *testing.T) {
	minus := mark("-")
	for s, want := range map[string][]api.Tok{
		"-": {minus}, " - ": {minus}, "--": {minus, minus}, "- -": {minus, minus},
		"-1": {num(-1)}, "- 1": {minus, num(1)}, "-  1": {minus, num(1)}, "--1": {minus, num(-1)}, "- -1": {minus, num(-1)}, "---1": {minus, minus, num(-1)},
		"-a": {minus, word("a")}, "- a": {minus, word("a")}, "-a1": {minus, word("a1")}, "a-": {word("a"), minus}, "a-b": {word("a"), minus, word("b")},
		"a-1": {word("a"), num(-1)}, "a- 1": {word("a"), minus, num(1)}, "a -1": {word("a"), num(-1)}, "a - 1": {word("a"), minus, num(1)},
		"1-": {num(1), minus}, "1-2": {num(1), num(-2)}, "1 -2": {num(1), num(-2)}, "1- 2": {num(1), minus, num(2)}, "1 - 2": {num(1), minus, num(2)}, "1--2": {num(1), minus, num(-2)}, "0-1": {num(0), num(-1)}, "1-2-3": {num(1), num(-2), num(-3)},
		"-1-": {num(-1), minus}, "-1a": {num(-1), word("a")}, "-'a'": {minus, text("a")}, "'a'-1": {text("a"), num(-1)}, "-(": {minus, mark("(")}, "(-": {mark("("), minus}, "-)1": {minus, mark(")"), num(1)}, "+-1": {mark("+"), num(-1)}, "-+1": {minus, mark("+"), num(1)}, "- 0": {minus, num(0)},
	} {
		expectTokens(t, s, want...)
	}
	for _, s := range []string{"-0", "1-0", "a-0", "--0", "-01", "1-01", "-_", "-A", "-\t1"} {
		expectRefused(t, s)
	}
}

// P6.2: each sign, alone and with each other one.
func TestLexSigns(t *testing.T) {
	for _, a := range allSigns() {
		expectTokens(t, a, mark(a))
		expectTokens(t, "x"+a+"y", word("x"), mark(a), word("y"))
		expectTokens(t, "'x'"+a+"'y'", text("x"), mark(a), text("y"))
		expectTokens(t, strings.Repeat(a, 20000), slices.Repeat(list(mark(a)), 20000)...)
		for _, b := range allSigns() {
			expectTokens(t, a+b, mark(a), mark(b))
			expectTokens(t, a+" "+b, mark(a), mark(b))
		}
	}
}

// P6.2: texts, and what is none.
func TestLexTexts(t *testing.T) {
	for s, want := range map[string]string{
		"''": "", "'a'": "a", "' '": " ", "'a b'": "a b", "'  a'": "  a",
		"''''": "'", "''''''": "''", "'''a'": "'a", "'a'''": "a'", "'a''b'": "a'b", "'''a''b'''": "'a'b'", "'it''s'": "it's", "'a''''b'": "a''b", "''' '''": "' '",
		"'-1'": "-1", "'(a)'": "(a)", "'A_!'": "A_!", "'\"'": "\"", "'\\'": "\\", "'a\nb'": "a\nb", "'\r\n\t'": "\r\n\t", "'\x00'": "\x00", "'\x80\xff'": "\x80\xff", "'\xc3\xa9'": "\xc3\xa9",
	} {
		expectTokens(t, s, text(want))
		expectTokens(t, "("+s+")", mark("("), text(want), mark(")"))
		expectTokens(t, s+" "+s, text(want), text(want))
		// Without its last quote it is not closed.
		expectRefused(t, s[:len(s)-1])
	}
	expectTokens(t, "'' ''", text(""), text(""))
	expectTokens(t, "'a' 'b'", text("a"), text("b"))
	expectTokens(t, "'a''b'", text("a'b"))
	expectTokens(t, "'a'b", text("a"), word("b"))
	expectTokens(t, "'a'1", text("a"), num(1))
	expectTokens(t, "'a','b'", text("a"), mark(","), text("b"))
	for _, s := range []string{"'", "'''", "'''''", "'a", "'a''", "'''a", "'a''''", "'a' '", "' ", "'\n", "a'", "1'", "('", "'a'b'", "'a'b'c''", "''a'''", "\"a\"", "`a`"} {
		expectRefused(t, s)
	}
}

// P6.2: it is the bytes of a text that are counted, not those of its print.
func TestLexTextLengths(t *testing.T) {
	for _, s := range []string{"x", "'", "\n", "\xff", " ", "\x00"} {
		for _, n := range []int{0, 1, 2, 499, 500, 501, 998, 999, 1000} {
			inside := strings.Repeat(s, n)
			expectTokens(t, value.Text(text(inside).V), text(inside))
		}
		for _, n := range []int{1001, 1002, 2000, 5000} {
			inside := strings.Repeat(s, n)
			expectRefused(t, value.Text(text(inside).V))
			expectRefused(t, "a "+value.Text(text(inside).V)+" a")
		}
	}
	expectTokens(t, "'"+strings.Repeat("x", 999)+"'''", text(strings.Repeat("x", 999)+"'"))
	expectRefused(t, "'"+strings.Repeat("x", 999)+"'''''")
	expectRefused(t, "'"+strings.Repeat("x", 1000)+"'''")
	expectRefused(t, "'"+strings.Repeat("x", 1000))
	expectRefused(t, "'"+strings.Repeat("x", 19999))
}

// P6.2: at most 20000 bytes are read, whatever they are.
func TestLexLengths(t *testing.T) {
	expectTokens(t, "a"+strings.Repeat(" ", 19999), word("a"))
	expectTokens(t, strings.Repeat(" ", 19999)+"a", word("a"))
	expectTokens(t, strings.Repeat("a ", 10000), slices.Repeat(list(word("a")), 10000)...)
	expectTokens(t, strings.Repeat("a-", 10000), slices.Repeat(list(word("a"), mark("-")), 10000)...)
	expectTokens(t, strings.Repeat("'' ", 6666)+"ab", append(slices.Repeat(list(text("")), 6666), word("ab"))...)
	for _, s := range []string{
		strings.Repeat(" ", 20001), "a" + strings.Repeat(" ", 20000), strings.Repeat(" ", 20000) + "a", strings.Repeat("a ", 10000) + " ", strings.Repeat("(", 20001),
		strings.Repeat("'' ", 6667), strings.Repeat(" ", 40000), strings.Repeat("1 ", 1000000), strings.Repeat("!", 20001), strings.Repeat("'", 20001),
	} {
		expectRefused(t, s)
	}
}

// P6.2: each byte that is no token's and no blank spoils everything, wherever it stands outside of texts.
func TestLexBytes(t *testing.T) {
	const known = "abcdefghijklmnopqrstuvwxyz0123456789 '()[],=<+-*?_"
	for b := range 256 {
		s := string([]byte{byte(b)})
		expectTokens(t, "'"+strings.ReplaceAll(s, "'", "''")+"'", text(s))
		if strings.Contains(known, s) {
			continue
		}
		for _, whole := range []string{s, s + s, "a" + s, s + "a", "a" + s + "b", "a " + s + " b", "1" + s, s + "1", "1" + s + "2", "-" + s, s + "-1", "(" + s, s + ")", "'a'" + s, s + "'a'", " " + s, s + " ", "a (1, 'b') " + s} {
			expectRefused(t, whole)
		}
	}
}

// pattern is a token, each of them as long as it may be in any text.
var pattern = func() *regexp.Regexp {
	p := regexp.MustCompile(`\A(?:([a-z][a-z0-9_]*)|(-?[0-9]+)|'((?:[^']|'')*)'|([-()\[\],=<+*?]))`)
	p.Longest()
	return p
}()

// expected is what the chapter says of s, which is not too long, by a regular expression.
func expected(s string) ([]api.Tok, bool) {
	var l []api.Tok
	for s = strings.TrimLeft(s, " "); s != ""; s = strings.TrimLeft(s, " ") {
		found := pattern.FindStringSubmatchIndex(s)
		if found == nil {
			return nil, false
		}
		part := func(i int) string { return s[found[2*i]:found[2*i+1]] }
		switch {
		case found[2] >= 0 && len(part(1)) <= 30:
			l = append(l, word(part(1)))
		case found[4] >= 0:
			n, ok := new(big.Int).SetString(part(2), 10)
			if !ok || !n.IsInt64() || n.String() != part(2) {
				return nil, false
			}
			l = append(l, num(int(n.Int64())))
		case found[6] >= 0 && len(strings.ReplaceAll(part(3), "''", "'")) <= 1000:
			l = append(l, text(strings.ReplaceAll(part(3), "''", "'")))
		case found[8] >= 0:
			l = append(l, mark(part(4)))
		default:
			return nil, false
		}
		s = s[found[1]:]
	}
	return l, true
}

// checkLex holds Lex of s against the chapter, and what it answers against P6.1 and P6.4.
func checkLex(t *testing.T, s string) {
	t.Helper()
	want, ok := expected(s)
	if !ok {
		expectRefused(t, s)
		return
	}
	expectTokens(t, s, want...)
	for _, x := range want {
		if !May(x) {
			t.Errorf("%q has a token that is not valid: %s", short(s), shown(x))
		}
	}
	expectTokens(t, Print(want), want...)
}

// P6.1, P6.2, P6.4: all strings of up to seven bytes out of those that mean something, and of up to four out of more.
func TestLexAll(t *testing.T) {
	var extend func(s, alphabet string, most int)
	extend = func(s, alphabet string, most int) {
		checkLex(t, s)
		if len(s) == most || t.Failed() {
			return
		}
		for i := range len(alphabet) {
			extend(s+alphabet[i:i+1], alphabet, most)
		}
	}
	extend("", "a1 '-", 7)
	extend("", "ab_019 '-(!", 5)
	extend("", "az_09 '-()[],=<+*?A.\n\x00\xff", 4)
}

// P6.2: words of around 30 bytes, numbers of around 19 digits and texts of around 1000 bytes, side by side.
func TestLexNearEdges(t *testing.T) {
	parts := []string{
		strings.Repeat("w", 29), strings.Repeat("w", 30), strings.Repeat("w", 31), "9223372036854775807", "9223372036854775808", "-9223372036854775808", "-9223372036854775809", "922337203685477580", "0", "-",
		"'" + strings.Repeat("x", 1000) + "'", "'" + strings.Repeat("x", 1001) + "'", "'" + strings.Repeat("''", 500) + "'", "'" + strings.Repeat("''", 1000) + "'", "''", "'", " ", "_", "(",
	}
	for _, a := range parts {
		for _, b := range parts {
			for _, c := range parts {
				checkLex(t, a+b+c)
			}
		}
	}
}

// P6.3: prints written out by hand.
func TestPrintCases(t *testing.T) {
	for _, c := range []struct {
		l    []api.Tok
		want string
	}{
		{nil, ""},
		{list(), ""},
		{list(word("a")), "a"},
		{list(word("a"), word("b_1")), "a b_1"},
		{list(word("a"), mark("("), num(-1), mark(")")), "a ( -1 )"},
		{list(mark("-"), num(1)), "- 1"},
		{list(mark("-"), num(-1), mark("-")), "- -1 -"},
		{list(num(0), num(12), num(math.MinInt), num(math.MaxInt)), "0 12 -9223372036854775808 9223372036854775807"},
		{list(text("")), "''"},
		{list(text(""), text("")), "'' ''"},
		{list(text("'it's'"), text("a b"), text("\n")), "'''it''s''' 'a b' '\n'"},
		{list(word("null"), mark("?")), "null ?"},
		{list(mark("("), mark(")"), mark("["), mark("]"), mark(","), mark("="), mark("<"), mark("+"), mark("-"), mark("*"), mark("?")), "( ) [ ] , = < + - * ?"},
	} {
		if got := Print(c.l); got != c.want {
			t.Errorf("%s: %q, want %q", shown(c.l...), got, c.want)
		}
	}
}

// P6.3: each valid token alone, and each pair with a single blank between.
func TestPrintPairs(t *testing.T) {
	print := func(x api.Tok) string {
		if x.Kind == api.TokValue {
			return value.Text(x.V)
		}
		return x.Text
	}
	for _, a := range validTokens() {
		if got := Print(list(a)); got != print(a) {
			t.Errorf("%s: %q", shown(a), short(got))
		}
		for _, b := range validTokens() {
			if got := Print(list(a, b)); got != print(a)+" "+print(b) {
				t.Errorf("%s and %s: %q", shown(a), shown(b), short(got))
			}
		}
	}
}

// P6.3: one token that is not valid, wherever it stands, leaves nothing of the others.
func TestPrintInvalid(t *testing.T) {
	for i, wrong := range invalidTokens() {
		for j, l := range [][]api.Tok{{wrong}, {wrong, wrong}, {wrong, word("a")}, {word("a"), wrong}, {word("a"), wrong, num(1)}, {mark("("), text("a"), mark(")"), wrong}} {
			if got := Print(l); got != "" {
				t.Errorf("token %d, list %d: %q", i, j, short(got))
			}
		}
	}
}

// P6.4: the prints of all lists of up to three tokens are read back.
func TestReadBack(t *testing.T) {
	all := validTokens()
	expectTokens(t, Print(nil))
	for _, a := range all {
		expectTokens(t, Print(list(a)), a)
		for _, b := range all {
			expectTokens(t, Print(list(a, b)), a, b)
			for _, c := range all {
				l := list(a, b, c)
				if got, bad := Lex(Print(l)); bad != api.OK || !slices.Equal(got, l) {
					t.Fatalf("%s, %s, %s: %s, error %d", shown(a), shown(b), shown(c), shown(got...), bad)
				}
			}
		}
	}
}

// P6.3, P6.4: a print of 20000 bytes is read back; a longer one is printed all the same, but not read.
func TestReadBackLengths(t *testing.T) {
	long := slices.Repeat(list(text(strings.Repeat("'", 1000))), 9)
	for _, c := range []struct {
		l    []api.Tok
		size int
	}{
		{slices.Repeat(list(mark("*")), 10000), 19999},
		{append(slices.Repeat(list(mark("*")), 9999), num(10)), 20000},
		{slices.Repeat(list(num(-1), word("a")), 4000), 19999},
		{append(slices.Clone(long), text(strings.Repeat("'", 984)), word("ab")), 20000},
		{append(slices.Repeat(list(mark("*")), 9999), num(-10)), 20001},
		{slices.Repeat(list(mark("*")), 10001), 20001},
		{append(slices.Clone(long), text(strings.Repeat("'", 984)), word("abc")), 20001},
		{slices.Repeat(list(word("a")), 1000000), 1999999},
	} {
		s := Print(c.l)
		if len(s) != c.size {
			t.Errorf("a print of %d bytes, want %d", len(s), c.size)
		}
		if c.size <= 20000 {
			expectTokens(t, s, c.l...)
		} else {
			expectRefused(t, s)
		}
	}
}

// R4: no call changes a list that it was given, and answers share no memory.
func TestKept(t *testing.T) {
	for _, l := range [][]api.Tok{validTokens(), invalidTokens(), {word("a"), {}, num(1)}} {
		before := slices.Clone(l)
		// Room behind the list would take what is appended to it.
		room := append(slices.Clone(l), word("room"))
		Print(room[:len(l)])
		for _, x := range l {
			May(x)
		}
		if !slices.Equal(room[:len(l)], before) || room[len(l)] != word("room") {
			t.Error("Print changed its list")
		}
	}
	first, _ := Lex("a 1 'b'")
	second, _ := Lex("a 1 'b'")
	for i := range first {
		first[i] = mark("?")
	}
	if !slices.Equal(second, list(word("a"), num(1), text("b"))) {
		t.Error("two answers share memory:", second)
	}
	expectTokens(t, "a 1 'b'", word("a"), num(1), text("b"))
}
