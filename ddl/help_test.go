package ddl

import (
	"fmt"
	"math"
	"reflect"
	"slices"
	"strings"
	"testing"

	"levee/api"
)

func op(o int) api.Node         { return api.Node{Op: o} }
func col(n int) api.Node        { return api.Node{Op: api.ECol, N: n} }
func held(v api.Value) api.Node { return api.Node{Op: api.EConst, V: v} }
func num(n int) api.Node        { return held(api.Value{Kind: api.Int, N: n}) }
func text(s string) api.Node    { return held(api.Value{Kind: api.Text, S: s}) }
func yes() api.Node             { return held(api.Value{Kind: api.Bool, N: 1}) }
func no() api.Node              { return held(api.Value{Kind: api.Bool}) }
func null() api.Node            { return held(api.Value{}) }

func column(name string, kind int) api.Column { return api.Column{Name: name, Kind: kind} }

func table(name string, cols []api.Column, checks ...api.Expr) api.Def {
	return api.Def{Kind: api.DefTable, Table: api.Table{Name: name, Cols: cols, Checks: checks}}
}

// checked is a table of one column with these checks; its print begins with checkedText.
func checked(checks ...api.Expr) api.Def {
	return table("t", []api.Column{column("k", api.Int)}, checks...)
}

const checkedText = "table t ( k int )"

func view(v api.View) api.Def { return api.Def{Kind: api.DefView, View: v} }

// copyOf is a copy that shares nothing with d, in which each empty list is nil.
func copyOf(d api.Def) api.Def {
	c := d
	c.Table.Cols = append([]api.Column(nil), d.Table.Cols...)
	c.Table.Checks = nil
	for _, e := range d.Table.Checks {
		c.Table.Checks = append(c.Table.Checks, append(api.Expr(nil), e...))
	}
	c.View.Where = append(api.Expr(nil), d.View.Where...)
	c.View.Pick = append([]int(nil), d.View.Pick...)
	c.View.Aggs = append([]api.Agg(nil), d.View.Aggs...)
	return c
}

func equal(a, b api.Def) bool { return reflect.DeepEqual(copyOf(a), copyOf(b)) }

func short(s string) string {
	if len(s) > 300 {
		return s[:300] + ".."
	}
	return s
}

// shown keeps what is told of a definition short, however great it is.
func shown(d api.Def) string { return short(fmt.Sprintf("%#v", d)) }

func expectParsed(t *testing.T, s string, want api.Def) {
	t.Helper()
	if got, bad := Parse(s); bad != api.OK || !equal(got, want) {
		t.Errorf("%q: %s, error %d; want %s", short(s), shown(got), bad, shown(want))
	}
}

func expectRefused(t *testing.T, s string, want api.Errno) {
	t.Helper()
	if got, bad := Parse(s); bad != want || !equal(got, api.Def{}) {
		t.Errorf("%q: %s, error %d; want none and error %d", short(s), shown(got), bad, want)
	}
}

// expectPrinted holds d against its print; an empty one means that there is none.
func expectPrinted(t *testing.T, d api.Def, want string) {
	t.Helper()
	if got := Print(d); got != want {
		t.Errorf("%s: %q, want %q", shown(d), short(got), short(want))
	}
	if got := May(d); got != (want != "") {
		t.Errorf("%s: May tells %v of the print %q", shown(d), got, short(want))
	}
}

// expectPair holds d and its print against each other, both ways.
func expectPair(t *testing.T, s string, d api.Def) {
	t.Helper()
	expectParsed(t, s, d)
	expectPrinted(t, d, s)
}

// grammar is the chapter's.
const grammar = `
definition = "table" NAME "(" column { "," column } ")" { "check" expr }
           | "view" NAME "from" NAME [ "join" NAME "on" N "=" N ] [ "where" expr ] "pick" [ N { "," N } ] [ "group" [ agg { "," agg } ] ]
column     = NAME ( "bool" | "int" | "text" ) [ "null" ] [ "unique" ] [ "ref" NAME ( "restrict" | "cascade" | "setnull" ) ]
agg        = "count" | "sum" N | "min" N | "max" N
expr       = "[" { step } "]"
step       = "c" and digits in one word | N | TEXT | "true" | "false" | "null" | "+" | "-" | "*" | "=" | "<" | "and" | "or" | "not" | "null" "?"
`

// quotedWords holds the grammar's quoted words but c, each once.
var quotedWords = func() []string {
	var l []string
	for i, part := range strings.Split(grammar, `"`) {
		if i%2 == 1 && part != "c" && part[0] >= 'a' && part[0] <= 'z' && !slices.Contains(l, part) {
			l = append(l, part)
		}
	}
	return l
}()

// goodNames and badNames hold words that may be names, and texts that may not.
func goodNames() []string {
	return []string{
		"a", "z", "k", "c", "c0", "c5", "c00", "c01", "c99", "c100", "cc", "c_", "c5_", "c5a", "n", "s", "tables", "tabl", "table_", "table1", "nulls", "nul", "ints", "in", "an", "as", "by", "get", "put", "set", "cut", "scan", "look", "key", "set_null", "a_1__", "andor",
		strings.Repeat("w", 30), "a" + strings.Repeat("_", 29), "a" + strings.Repeat("9", 29),
	}
}

func badNames() []string {
	return append(slices.Clone(quotedWords),
		"", "_", "_a", "A", "Ab", "aB", "1", "1a", "-1", "0", "a b", "a ", " a", " ", "a-b", "a!", "'a'", "(", ")", ",", "[", "]", "?", "a,b", "a\n", "a\x00", "é", "a int , b", "k int ) check [ ]", "t pick", strings.Repeat("w", 31), strings.Repeat("w", 100000))
}

// someSteps holds steps that may be printed, with their prints.
func someSteps() map[string]api.Node {
	return map[string]api.Node{
		"c0": col(0), "c1": col(1), "c9": col(9), "c10": col(10), "c98": col(98), "c99": col(99),
		"0": num(0), "1": num(1), "-1": num(-1), "99": num(99), "100": num(100), "-100": num(-100),
		"9223372036854775806": num(math.MaxInt - 1), "9223372036854775807": num(math.MaxInt), "-9223372036854775807": num(math.MinInt + 1), "-9223372036854775808": num(math.MinInt),
		"''": text(""), "'a'": text("a"), "' '": text(" "), "''''": text("'"), "'it''s'": text("it's"), "''' '''": text("' '"), "'\n'": text("\n"), "'a\n\n''b'": text("a\n\n'b"), "'c0'": text("c0"), "'] check ['": text("] check ["), "'\x00\xff'": text("\x00\xff"), "'?'": text("?"),
		"'" + strings.Repeat("x", 1000) + "'": text(strings.Repeat("x", 1000)), "'" + strings.Repeat("''", 1000) + "'": text(strings.Repeat("'", 1000)),
		"true": yes(), "false": no(), "null": null(),
		"+": op(api.EAdd), "-": op(api.ESub), "*": op(api.EMul), "=": op(api.EEq), "<": op(api.ELess), "and": op(api.EAnd), "or": op(api.EOr), "not": op(api.ENot), "null ?": op(api.EIsNull),
	}
}

// badSteps holds steps that no text stands for, each for one reason.
func badSteps() []api.Node {
	l := []api.Node{col(-1), col(100), col(101), col(1000), col(-99), col(math.MaxInt), col(math.MinInt), text(strings.Repeat("x", 1001)), text(strings.Repeat("'", 1001)), text(strings.Repeat("x", 100000))}
	for _, v := range []api.Value{
		{N: 1}, {N: -1}, {S: "a"}, {S: "?"}, {Kind: api.Bool, N: 2}, {Kind: api.Bool, N: -1}, {Kind: api.Bool, S: "a"}, {Kind: api.Bool, N: 1, S: "true"}, {Kind: api.Int, S: "a"}, {Kind: api.Int, N: 1, S: "1"},
		{Kind: api.Text, N: 1}, {Kind: api.Text, N: -1, S: "a"}, {Kind: api.Kinds}, {Kind: -1}, {Kind: api.Kinds, N: 1, S: "a"}, {Kind: math.MaxInt}, {Kind: math.MinInt},
	} {
		l = append(l, held(v))
	}
	for _, o := range []int{api.EOps, api.EOps + 1, -1, -2, 100, 256, 257, math.MaxInt, math.MinInt} {
		l = append(l, op(o), api.Node{Op: o, N: 1}, api.Node{Op: o, V: num(1).V})
	}
	for o := range api.EOps {
		if o != api.ECol {
			l = append(l, api.Node{Op: o, N: 1}, api.Node{Op: o, N: -1}, api.Node{Op: o, N: math.MinInt})
		}
		if o != api.EConst {
			l = append(l, api.Node{Op: o, V: num(0).V}, api.Node{Op: o, V: text("").V}, api.Node{Op: o, V: no().V}, api.Node{Op: o, V: api.Value{N: 1}}, api.Node{Op: o, V: api.Value{S: "a"}}, api.Node{Op: o, V: api.Value{Kind: api.Kinds}})
		}
	}
	return l
}
