package schema

import (
	"fmt"
	"math"
	"reflect"
	"slices"
	"strconv"
	"strings"
	"testing"

	"levee/api"
	"levee/ddl"
)

// def is the definition that s holds.
func def(s string) api.Def {
	d, bad := ddl.Parse(s)
	if bad != api.OK {
		panic(fmt.Sprintf("%q: error %d", s, bad))
	}
	return d
}

// catalog holds these definitions as they stand: whether it is valid is another question.
func catalog(texts ...string) api.Catalog {
	var c api.Catalog
	for _, s := range texts {
		c = append(c, def(s))
	}
	return c
}

// few is a valid catalog: two tables, of which one refers to the other, a view of both, and a view of that view.
func few() []string {
	return []string{
		"table t(k int, a text null unique)",
		"table u(k text, b int null ref t setnull, c bool) check [c2 c1 null ? or]",
		"view v from t join u on 0 = 1 where [c0 5 <] pick 1, 4 group count, max 2, sum 0",
		"view w from v pick 3, 2",
	}
}

// tables returns n tables a00, a01, ..
func tables(n int) []string {
	l := make([]string, n)
	for i := range l {
		l[i] = fmt.Sprintf("table a%02d(k int)", i)
	}
	return l
}

// numbers returns the numbers from 0 on, below n, with commas between them.
func numbers(n int) string {
	l := make([]string, n)
	for i := range l {
		l[i] = strconv.Itoa(i)
	}
	return strings.Join(l, ", ")
}

// wide is a table of n columns.
func wide(name string, n int) string {
	l := make([]string, n)
	for i := range l {
		l[i] = "c" + strconv.Itoa(i) + " int"
	}
	return "table " + name + "(" + strings.Join(l, ", ") + ")"
}

// copied is a copy that shares nothing with c, in which each empty list is nil.
func copied(c api.Catalog) api.Catalog {
	var all api.Catalog
	for _, d := range c {
		d.Table.Cols = append([]api.Column(nil), d.Table.Cols...)
		var checks []api.Expr
		for _, e := range d.Table.Checks {
			checks = append(checks, append(api.Expr(nil), e...))
		}
		d.Table.Checks = checks
		d.View.Where = append(api.Expr(nil), d.View.Where...)
		d.View.Pick = append([]int(nil), d.View.Pick...)
		d.View.Aggs = append([]api.Agg(nil), d.View.Aggs...)
		all = append(all, d)
	}
	return all
}

func equal(a, b api.Catalog) bool { return reflect.DeepEqual(copied(a), copied(b)) }

// shown keeps what is told of a catalog short, however great it is.
func shown(c api.Catalog) string {
	var l []string
	for _, d := range c[:min(len(c), 30)] {
		s := ddl.Print(d)
		if s == "" {
			s = fmt.Sprintf("no definition of kind %d", d.Kind)
		}
		l = append(l, s[:min(len(s), 100)])
	}
	return strconv.Itoa(len(c)) + " of " + strings.Join(l, "; ")
}

// expectAdd holds Add of d to c against the error that is wanted, and, where none is, against c with d behind it.
func expectAdd(t *testing.T, c api.Catalog, d api.Def, want api.Errno) {
	t.Helper()
	longer := append(copied(c), d)
	got, bad := Add(c, d)
	if bad != want || want == api.OK && !equal(got, longer) || want != api.OK && len(got) != 0 {
		t.Errorf("%s to %s: %s, error %d; want error %d", shown(api.Catalog{d}), shown(c), shown(got), bad, want)
	}
	// What can be added to a valid catalog, and only that, may be behind it.
	if may := May(c) && want == api.OK; May(longer) != may {
		t.Errorf("%s: May is %v", shown(longer), !may)
	}
}

// expectAdded holds Add of each of texts to c, which stays as it is.
func expectAdded(t *testing.T, c api.Catalog, want api.Errno, texts ...string) {
	t.Helper()
	for _, s := range texts {
		expectAdd(t, c, def(s), want)
	}
}

// expectKinds holds the kinds of a table's or a view's columns, and which of them may be null, against these words: a kind each, with ? behind it where null may be.
func expectKinds(t *testing.T, c api.Catalog, name, words string) {
	t.Helper()
	var kinds []int
	var null []bool
	for _, w := range strings.Fields(words) {
		bare, may := strings.CutSuffix(w, "?")
		kinds = append(kinds, map[string]int{"bool": api.Bool, "int": api.Int, "text": api.Text}[bare])
		null = append(null, may)
	}
	gotKinds, gotNull, ok := Kinds(c, name)
	if !ok || !slices.Equal(gotKinds, kinds) || !slices.Equal(gotNull, null) {
		t.Errorf("%s of %s: %v, %v, %v; want %s", name, shown(c), gotKinds, gotNull, ok, words)
	}
}

func expectNoKinds(t *testing.T, c api.Catalog, name string) {
	t.Helper()
	if kinds, null, ok := Kinds(c, name); len(kinds) != 0 || len(null) != 0 || ok {
		t.Errorf("%q of %s: %v, %v, %v; want none", name, shown(c), kinds, null, ok)
	}
}

// expectBad holds that c is not valid, with all that follows from it.
func expectBad(t *testing.T, c api.Catalog) {
	t.Helper()
	if May(c) {
		t.Errorf("%s: valid", shown(c))
	}
	expectAdd(t, c, def("table fresh(k int)"), api.ErrArg)
	expectAdd(t, c, def("view fresh from t pick 0"), api.ErrArg)
	expectAdd(t, c, api.Def{}, api.ErrArg)
	for _, d := range c[:min(len(c), 30)] {
		expectNoKinds(t, c, d.Table.Name)
		expectNoKinds(t, c, d.View.Name)
	}
	expectNoKinds(t, c, "")
}

// unprintable returns definitions that are not valid, one for each reason.
func unprintable() map[string]api.Def {
	table := func(change func(d *api.Def)) api.Def {
		d := def("table x(k int, a text null unique ref x2 cascade) check [c0 1 <]")
		change(&d)
		return d
	}
	view := func(change func(d *api.Def)) api.Def {
		d := def("view x from t join u on 0 = 1 where [c0 1 <] pick 0, 1 group count, sum 0")
		change(&d)
		return d
	}
	long := strings.Repeat("w", 31)
	return map[string]api.Def{
		"zero":                 {},
		"kind -1":              table(func(d *api.Def) { d.Kind = -1 }),
		"kind 2":               table(func(d *api.Def) { d.Kind = api.DefKinds }),
		"kind 2 of a view":     view(func(d *api.Def) { d.Kind = api.DefKinds }),
		"least kind":           table(func(d *api.Def) { d.Kind = math.MinInt }),
		"table as a view":      table(func(d *api.Def) { d.Kind = api.DefView }),
		"view as a table":      view(func(d *api.Def) { d.Kind = api.DefTable }),
		"table with a view":    table(func(d *api.Def) { d.View.Name = "x" }),
		"view with a table":    view(func(d *api.Def) { d.Table.Cols = []api.Column{{Name: "k", Kind: api.Int}} }),
		"no name":              table(func(d *api.Def) { d.Table.Name = "" }),
		"kept name":            table(func(d *api.Def) { d.Table.Name = "table" }),
		"long name":            table(func(d *api.Def) { d.Table.Name = long }),
		"no name of a view":    view(func(d *api.Def) { d.View.Name = "" }),
		"no word":              view(func(d *api.Def) { d.View.Name = "X" }),
		"no columns":           table(func(d *api.Def) { d.Table.Cols = nil }),
		"41 columns":           table(func(d *api.Def) { d.Table.Cols = slices.Repeat(d.Table.Cols[:1], 41) }),
		"many columns":         table(func(d *api.Def) { d.Table.Cols = slices.Repeat(d.Table.Cols[:1], 100000) }),
		"41 checks":            table(func(d *api.Def) { d.Table.Checks = slices.Repeat(d.Table.Checks, 41) }),
		"column's name":        table(func(d *api.Def) { d.Table.Cols[0].Name = "" }),
		"kept column's name":   table(func(d *api.Def) { d.Table.Cols[1].Name = "null" }),
		"column of null":       table(func(d *api.Def) { d.Table.Cols[0].Kind = api.Null }),
		"column's kind":        table(func(d *api.Def) { d.Table.Cols[0].Kind = api.Kinds }),
		"ref is no name":       table(func(d *api.Def) { d.Table.Cols[1].Ref = "null" }),
		"act":                  table(func(d *api.Def) { d.Table.Cols[1].Act = api.Acts }),
		"act -1":               table(func(d *api.Def) { d.Table.Cols[1].Act = -1 }),
		"act of no ref":        table(func(d *api.Def) { d.Table.Cols[0].Act = api.Cascade }),
		"101 steps":            table(func(d *api.Def) { d.Table.Checks[0] = slices.Repeat(d.Table.Checks[0][:1], 101) }),
		"no step":              table(func(d *api.Def) { d.Table.Checks[0][2].Op = api.EOps }),
		"step's column":        table(func(d *api.Def) { d.Table.Checks[0][0].N = 100 }),
		"step's column -1":     table(func(d *api.Def) { d.Table.Checks[0][0].N = -1 }),
		"step's value":         table(func(d *api.Def) { d.Table.Checks[0][1].V.S = "s" }),
		"20001 bytes":          table(func(d *api.Def) { d.Table.Checks = []api.Expr{slices.Repeat(api.Expr{text(1000)}, 20)} }),
		"from":                 view(func(d *api.Def) { d.View.From = "" }),
		"from is no name":      view(func(d *api.Def) { d.View.From = "from" }),
		"with is no name":      view(func(d *api.Def) { d.View.With = "join" }),
		"on without with":      view(func(d *api.Def) { d.View.With = "" }),
		"on -1":                view(func(d *api.Def) { d.View.On[0] = -1 }),
		"on 100":               view(func(d *api.Def) { d.View.On[1] = 100 }),
		"on the least":         view(func(d *api.Def) { d.View.On[1] = math.MinInt }),
		"101 steps of a where": view(func(d *api.Def) { d.View.Where = slices.Repeat(d.View.Where[:1], 101) }),
		"no step of a where":   view(func(d *api.Def) { d.View.Where[0].Op = -1 }),
		"pick -1":              view(func(d *api.Def) { d.View.Pick[0] = -1 }),
		"pick 100":             view(func(d *api.Def) { d.View.Pick[1] = 100 }),
		"pick the greatest":    view(func(d *api.Def) { d.View.Pick[1] = math.MaxInt }),
		"41 picks":             view(func(d *api.Def) { d.View.Pick = make([]int, 41) }),
		"41 aggregates":        view(func(d *api.Def) { d.View.Aggs = make([]api.Agg, 41) }),
		"function":             view(func(d *api.Def) { d.View.Aggs[1].Fn = api.Fns }),
		"function -1":          view(func(d *api.Def) { d.View.Aggs[1].Fn = -1 }),
		"aggregate of -1":      view(func(d *api.Def) { d.View.Aggs[1].Col = -1 }),
		"aggregate of 100":     view(func(d *api.Def) { d.View.Aggs[1].Col = 100 }),
		"count of 1":           view(func(d *api.Def) { d.View.Aggs[0].Col = 1 }),
		"no group":             view(func(d *api.Def) { d.View.Group = false }),
	}
}

// text is a step of n bytes.
func text(n int) api.Node {
	return api.Node{Op: api.EConst, V: api.Value{Kind: api.Text, S: strings.Repeat("x", n)}}
}
