package ddl

import (
	"slices"
	"strconv"
	"strings"

	"levee/api"
)

// maxCol is the greatest number of a column.
const maxCol = 99

// reader holds the tokens that are still to be read.
type reader struct {
	rest  []api.Tok
	steps map[string]api.Node
}

// done reports whether nothing is left to be read.
func (r *reader) done() bool {
	return len(r.rest) == 0
}

// sees reports whether these words and signs come next. Values have no Text, so that none of them is taken for a word.
func (r *reader) sees(words ...string) bool {
	if len(r.rest) < len(words) {
		return false
	}
	for i, w := range words {
		if r.rest[i].Text != w {
			return false
		}
	}
	return true
}

// has reads these words and signs, if all of them come next.
func (r *reader) has(words ...string) bool {
	seen := r.sees(words...)
	if seen {
		r.rest = r.rest[len(words):]
	}
	return seen
}

// must reads these words and signs, which must come next.
func (r *reader) must(words ...string) {
	require(r.has(words...))
}

// take reads the next token; there must be one.
func (r *reader) take() api.Tok {
	require(!r.done())
	t := r.rest[0]
	r.rest = r.rest[1:]
	return t
}

// choice reads one of these words, and returns its place among them.
func (r *reader) choice(words ...string) int {
	at := slices.Index(words, r.take().Text)
	require(at >= 0)
	return at
}

func (r *reader) name() string {
	t := r.take()
	require(t.Kind == api.TokWord && !isKept(t.Text))
	return t.Text
}

// col reads the number of a column.
func (r *reader) col() int {
	t := r.take()
	require(t.V.Kind == api.Int && isCol(t.V.N))
	return t.V.N
}

func isCol(n int) bool {
	return n >= 0 && n <= maxCol
}

// list reads items by item, up to the first one that no comma follows.
func (r *reader) list(item func()) {
	item()
	for r.has(",") {
		item()
	}
}

func (r *reader) definition() api.Def {
	d := api.Def{Kind: r.choice("table", "view")}
	if d.Kind == api.DefTable {
		d.Table = r.table()
	} else {
		d.View = r.view()
	}
	require(r.done())
	return d
}

func (r *reader) table() api.Table {
	t := api.Table{Name: r.name()}
	r.must("(")
	r.list(func() { t.Cols = append(t.Cols, r.column()) })
	r.must(")")
	for r.has("check") {
		t.Checks = append(t.Checks, r.expr())
	}
	require(len(t.Cols) <= maxItems && len(t.Checks) <= maxItems)
	return t
}

func (r *reader) column() api.Column {
	c := api.Column{Name: r.name(), Kind: api.Bool + r.choice(kindWords()...)}
	c.Null = r.has("null")
	c.Unique = r.has("unique")
	if r.has("ref") {
		c.Ref = r.name()
		c.Act = r.choice(actWords()...)
	}
	return c
}

func (r *reader) view() api.View {
	v := api.View{Name: r.name()}
	r.must("from")
	v.From = r.name()
	if r.has("join") {
		v.With = r.name()
		v.On = r.on()
	}
	if r.has("where") {
		v.Where = r.expr()
	}
	r.must("pick")
	if !r.done() && !r.sees("group") {
		r.list(func() { v.Pick = append(v.Pick, r.col()) })
	}
	v.Group = r.has("group")
	if v.Group && !r.done() {
		r.list(func() { v.Aggs = append(v.Aggs, r.agg()) })
	}
	require(len(v.Pick) <= maxItems && len(v.Aggs) <= maxItems)
	return v
}

// on reads the columns by which a view joins.
func (r *reader) on() [2]int {
	r.must("on")
	from := r.col()
	r.must("=")
	return [2]int{from, r.col()}
}

func (r *reader) agg() api.Agg {
	a := api.Agg{Fn: r.choice(fnWords()...)}
	if a.Fn != api.FnCount {
		a.Col = r.col()
	}
	return a
}

func (r *reader) expr() api.Expr {
	var e api.Expr
	r.must("[")
	for !r.has("]") {
		e = append(e, r.step())
	}
	require(len(e) <= maxSteps)
	return e
}

func (r *reader) step() api.Node {
	if r.has("null", "?") {
		return api.Node{Op: api.EIsNull}
	}
	t := r.take()
	if t.Kind == api.TokValue {
		return api.Node{Op: api.EConst, V: t.V}
	}
	if n, ok := r.steps[t.Text]; ok {
		return n
	}
	return api.Node{Op: api.ECol, N: colOf(t.Text)}
}

// colOf returns the number of the column that a word such as c5 stands for. Zeros that are not necessary are found by writing it again.
func colOf(word string) int {
	digits, ok := strings.CutPrefix(word, "c")
	n, err := strconv.Atoi(digits)
	require(ok && err == nil && isCol(n) && strconv.Itoa(n) == digits)
	return n
}
