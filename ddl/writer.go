package ddl

import (
	"strconv"
	"strings"

	"levee/api"
	"levee/expr"
)

// maxBytes is the greatest number of bytes of a print.
const maxBytes = 20000

// writer holds what is written so far.
type writer struct {
	text strings.Builder
}

// add writes words and signs, with a blank ahead of each but the first one. It gives up what gets too long at once, because definitions may be of any size.
func (w *writer) add(words ...string) {
	for _, s := range words {
		if w.text.Len() > 0 {
			w.text.WriteByte(' ')
		}
		require(w.text.Len()+len(s) <= maxBytes)
		w.text.WriteString(s)
	}
}

// choice writes the word at this place.
func (w *writer) choice(at int, words ...string) {
	require(at >= 0 && at < len(words))
	w.add(words[at])
}

func (w *writer) number(n int) {
	w.add(strconv.Itoa(n))
}

// list writes n items by item, with commas between them.
func (w *writer) list(n int, item func(i int)) {
	for i := range n {
		if i > 0 {
			w.add(",")
		}
		item(i)
	}
}

func (w *writer) definition(d api.Def) {
	w.choice(d.Kind, "table", "view")
	if d.Kind == api.DefTable {
		w.table(d.Table)
	} else {
		w.view(d.View)
	}
}

func (w *writer) table(t api.Table) {
	w.add(t.Name, "(")
	w.list(len(t.Cols), func(i int) { w.column(t.Cols[i]) })
	w.add(")")
	for _, e := range t.Checks {
		w.add("check")
		w.expr(e)
	}
}

func (w *writer) column(c api.Column) {
	w.add(c.Name)
	w.choice(c.Kind-api.Bool, kindWords()...)
	if c.Null {
		w.add("null")
	}
	if c.Unique {
		w.add("unique")
	}
	if c.Ref != "" {
		w.add("ref", c.Ref)
		w.choice(c.Act, actWords()...)
	}
}

func (w *writer) view(v api.View) {
	w.add(v.Name, "from", v.From)
	if v.With != "" {
		w.add("join", v.With, "on", strconv.Itoa(v.On[0]), "=", strconv.Itoa(v.On[1]))
	}
	if len(v.Where) > 0 {
		w.add("where")
		w.expr(v.Where)
	}
	w.add("pick")
	w.list(len(v.Pick), func(i int) { w.number(v.Pick[i]) })
	if v.Group {
		w.add("group")
		w.list(len(v.Aggs), func(i int) { w.agg(v.Aggs[i]) })
	}
}

func (w *writer) agg(a api.Agg) {
	w.choice(a.Fn, fnWords()...)
	if a.Fn != api.FnCount {
		w.number(a.Col)
	}
}

func (w *writer) expr(e api.Expr) {
	w.add("[")
	for _, n := range e {
		w.step(n)
	}
	w.add("]")
}

// step writes a step as package expr does, which has no blank in the one word that is two tokens.
func (w *writer) step(n api.Node) {
	if n.Op == api.EIsNull {
		w.add("null", "?")
		return
	}
	w.add(expr.Text(api.Expr{n}))
}
