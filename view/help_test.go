package view

import (
	"testing"

	"levee/api"
	"levee/ddl"
	"levee/sample"
)

// Bounds of numbers, in print.
const (
	most  = "9223372036854775807"
	least = "-9223372036854775808"
)

// parsed is the view that s holds, as behind the view's name.
func parsed(s string) api.View { return sample.Def("view v " + s).View }

// turns is a valid catalog of tables and views in turns: views of one table and of several views, of a view of a view of a view, that join and that group.
func turns() []string {
	return []string{
		"table t(k int, a int null)",
		"view v from t where [c1 null? not] pick 1, 0",
		"table u(k int, b int null)",
		"view w from v join u on 0 = 1 pick 1, 2, 0",
		"view s from t join t on 1 = 0 where [c0 c3 = not] pick 0, 3",
		"view g from w pick 2 group count, sum 0, max 1",
		"view h from g join v on 0 = 0 where [c5 2 <] pick 0, 2, 5",
		"table z(k text)",
		"view i from h pick 2 group count, min 0",
		"view o from u where [c0 2 < c1 null? or] pick 1",
		"view p from u pick 0, 1, 0",
		"view q from z join z on 0 = 0 pick group count, max 1",
		"view r from i join p on 0 = 2 pick 3, 1, 0",
	}
}

// turnsBase holds rows of the tables of turns, with which each of its views has rows.
func turnsBase() []api.Source {
	return sample.Sources("u", "(1, 0)*2 (1, 1) (2, 1) (3, null)", "z", "('a') ('b')*2", "t", "(0, null) (1, 0)*2 (1, 1) (2, 0)")
}

// bagsOf returns n rows (1, 1), (1, 2), .. that all join each other by their first column.
func bagsOf(n int) api.Bag {
	var b api.Bag
	for i := range n {
		b = append(b, api.Count{Row: api.Row{sample.Num(1), sample.Num(i + 1)}, N: 1})
	}
	return b
}

// wideRow is a row of n ones.
func wideRow(n int) api.Row {
	var r api.Row
	for range n {
		r = append(r, sample.Num(1))
	}
	return r
}

func expectEval(t *testing.T, v api.View, from, with, joined, rows api.Bag) {
	t.Helper()
	gotJoined, gotRows, bad := Eval(v, from, with)
	if bad != api.OK || !sample.Same(gotJoined, joined) || !sample.Same(gotRows, rows) {
		t.Errorf("%s of %s and %s: %s, %s, error %d; want %s, %s", shown(v), sample.Show(from), sample.Show(with), sample.Show(gotJoined), sample.Show(gotRows), bad, sample.Show(joined), sample.Show(rows))
	}
}

func expectEvalError(t *testing.T, v api.View, from, with api.Bag, want api.Errno) {
	t.Helper()
	joined, rows, bad := Eval(v, from, with)
	if bad != want || len(joined) != 0 || len(rows) != 0 {
		t.Errorf("%s of %s and %s: %s, %s, error %d; want error %d", shown(v), sample.Show(from), sample.Show(with), sample.Show(joined), sample.Show(rows), bad, want)
	}
}

// shown is what a test tells of a view, whether it is valid or not.
func shown(v api.View) string {
	s := ddl.Print(api.Def{Kind: api.DefView, View: v})
	if s == "" {
		s = "no valid view"
	}
	return s[:min(len(s), 200)]
}

func expectAll(t *testing.T, c api.Catalog, base, want []api.Source) {
	t.Helper()
	got, bad := All(c, base)
	if bad != api.OK || !sample.SameSources(got, want) {
		t.Errorf("of %s: %s, error %d; want %s", sample.ShowSources(base), sample.ShowSources(got), bad, sample.ShowSources(want))
	}
}

func expectAllError(t *testing.T, c api.Catalog, base []api.Source, want api.Errno) {
	t.Helper()
	got, bad := All(c, base)
	if bad != want || len(got) != 0 {
		t.Errorf("of %s: %s, error %d; want error %d", sample.ShowSources(base), sample.ShowSources(got), bad, want)
	}
}

func expectFind(t *testing.T, l []api.Source, name string, want api.Bag) {
	t.Helper()
	if got := Find(l, name); !sample.Same(got, want) {
		t.Errorf("%q in %s: %s; want %s", name, sample.ShowSources(l), sample.Show(got), sample.Show(want))
	}
}
