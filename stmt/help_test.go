package stmt

import (
	"fmt"
	"math"
	"slices"
	"strings"
	"testing"

	"levee/api"
)

func num(n int) api.Value     { return api.Value{Kind: api.Int, N: n} }
func text(s string) api.Value { return api.Value{Kind: api.Text, S: s} }
func yes() api.Value          { return api.Value{Kind: api.Bool, N: 1} }
func no() api.Value           { return api.Value{Kind: api.Bool} }
func null() api.Value         { return api.Value{} }

func of(do int, name string, values ...api.Value) api.Stmt {
	return api.Stmt{Do: do, Name: name, Row: values}
}

// equal takes an empty row and none as the same.
func equal(a, b api.Stmt) bool {
	return a.Do == b.Do && a.Name == b.Name && slices.Equal(a.Row, b.Row)
}

func short(s string) string {
	if len(s) > 300 {
		return s[:300] + ".."
	}
	return s
}

// shown keeps what is told of a statement short, however great it is.
func shown(x api.Stmt) string {
	name := short(x.Name)
	if len(x.Row) > 100 {
		return fmt.Sprintf("%d of %q, %d values", x.Do, name, len(x.Row))
	}
	return short(fmt.Sprintf("%d of %q, %v", x.Do, name, x.Row))
}

func expectParsed(t *testing.T, s string, want api.Stmt) {
	t.Helper()
	if got, bad := Parse(s); bad != api.OK || !equal(got, want) {
		t.Errorf("%q: %s, error %d; want %s", short(s), shown(got), bad, shown(want))
	}
}

func expectRefused(t *testing.T, s string, want api.Errno) {
	t.Helper()
	if got, bad := Parse(s); bad != want || !equal(got, api.Stmt{}) {
		t.Errorf("%q: %s, error %d; want none and error %d", short(s), shown(got), bad, want)
	}
}

// expectPrinted holds x against its print; an empty one means that there is none.
func expectPrinted(t *testing.T, x api.Stmt, want string) {
	t.Helper()
	if got := Print(x); got != want {
		t.Errorf("%s: %q, want %q", shown(x), short(got), short(want))
	}
}

// expectPair holds x and its print against each other, both ways.
func expectPair(t *testing.T, s string, x api.Stmt) {
	t.Helper()
	expectParsed(t, s, x)
	expectPrinted(t, x, s)
}

// quotedWords returns the quoted words in the grammar of definitions, which are no names.
func quotedWords() []string {
	return strings.Fields("table check view from join on where pick group bool int text null unique ref restrict cascade setnull count sum min max true false and or not")
}

// ownWords returns the words of statements, each at its number.
func ownWords() []string {
	return []string{"get", "scan", "put", "set", "cut", "look"}
}

// goodNames and badNames return words that may be names, and texts that may not.
func goodNames() []string {
	return append(ownWords(),
		"a", "z", "t", "k", "c", "c0", "c5", "c00", "c01", "c99", "c100", "cc", "c_", "c5_", "n", "v", "gets", "tables", "tabl", "table_", "table1", "nulls", "nul", "trues", "ints", "in", "key", "set_null", "a_1__",
		strings.Repeat("w", 30), "a"+strings.Repeat("_", 29), "a"+strings.Repeat("9", 29))
}

func badNames() []string {
	return append(quotedWords(),
		"", "_", "_a", "A", "Ab", "aB", "1", "1a", "-1", "0", "a b", "a ", " a", " ", "a-b", "a!", "'a'", "(", ")", ",", "[", "]", "?", "a,b", "t 1", "t ( 1", "t ( )", "t ( k int ) check [ ]", "t ( k int ) table t", "a\n", "a\x00", "é", strings.Repeat("w", 31), strings.Repeat("w", 100000))
}

// someValues returns values that may be printed, with their prints.
func someValues() map[string]api.Value {
	return map[string]api.Value{
		"null": null(), "true": yes(), "false": no(),
		"0": num(0), "1": num(1), "-1": num(-1), "10": num(10), "99": num(99), "100": num(100), "-100": num(-100),
		"9223372036854775806": num(math.MaxInt - 1), "9223372036854775807": num(math.MaxInt), "-9223372036854775807": num(math.MinInt + 1), "-9223372036854775808": num(math.MinInt),
		"''": text(""), "'a'": text("a"), "' '": text(" "), "''''": text("'"), "''''''": text("''"), "'it''s'": text("it's"), "'''a'": text("'a"), "'a'''": text("a'"), "''' '''": text("' '"),
		"'\n'": text("\n"), "'a\n\n''b'": text("a\n\n'b"), "'\x00\xff'": text("\x00\xff"), "'é'": text("é"), "'null'": text("null"), "'true'": text("true"), "'1'": text("1"), "'t'": text("t"), "'('": text("("), "') '": text(") "), "','": text(","), "' , '": text(" , "),
		"'" + strings.Repeat("x", 1000) + "'": text(strings.Repeat("x", 1000)), "'" + strings.Repeat("''", 1000) + "'": text(strings.Repeat("'", 1000)), "'" + strings.Repeat("\n", 1000) + "'": text(strings.Repeat("\n", 1000)),
	}
}

// badValues returns values that are not valid, each for one reason.
func badValues() []api.Value {
	return []api.Value{
		{N: 1}, {N: -1}, {S: "a"}, {S: "null"}, {Kind: api.Bool, N: 2}, {Kind: api.Bool, N: -1}, {Kind: api.Bool, S: "a"}, {Kind: api.Bool, N: 1, S: "true"}, {Kind: api.Int, S: "a"}, {Kind: api.Int, N: 1, S: "1"},
		{Kind: api.Text, N: 1}, {Kind: api.Text, N: -1, S: "a"}, {Kind: api.Kinds}, {Kind: -1}, {Kind: api.Kinds, N: 1, S: "a"}, {Kind: 256}, {Kind: 1 << 32}, {Kind: math.MaxInt}, {Kind: math.MinInt},
		text(strings.Repeat("x", 1001)), text(strings.Repeat("'", 1001)), text(strings.Repeat("x", 100000)),
	}
}
