package delta

import (
	"testing"

	"levee/api"
	"levee/ddl"
	"levee/sample"
)

// Bounds of numbers, in print.
const (
	most  = "9223372036854775807"
	least = "-9223372036854775808"
)

// change is what there was, and what comes, both in print.
func change(old, diff string) Change {
	return Change{Old: sample.Bag(old), Diff: sample.Bag(diff)}
}

// on is the view that joins by these columns, which need not exist.
func on(left, right int) api.View { return api.View{With: "w", On: [2]int{left, right}} }

// parsed is the view that s holds, as behind the view's name.
func parsed(s string) api.View { return sample.Def("view v " + s).View }

// run returns n rows (v, 0), (v, 1), ..
func run(v, n int) api.Bag {
	var b api.Bag
	for i := range n {
		b = append(b, api.Count{Row: api.Row{sample.Num(v), sample.Num(i)}, N: 1})
	}
	return b
}

// wide is n times the row of so many ones.
func wide(size, n int) api.Bag {
	r := make(api.Row, size)
	for i := range r {
		r[i] = sample.Num(1)
	}
	return sample.One(r, n)
}

// shown is what a test tells of what a function is given.
func shown(v api.View, from, with Change) string {
	s := ddl.Print(api.Def{Kind: api.DefView, View: v})
	return s[:min(len(s), 200)] + " (with \"" + v.With[:min(len(v.With), 20)] + "\") of " + shownChange(from) + " and " + shownChange(with)
}

func shownChange(c Change) string {
	return sample.Show(c.Old) + " then " + sample.Show(c.Diff)
}

// asked is one of the package's functions.
type asked func(v api.View, from, with Change) (api.Bag, api.Errno)

func expectProduct(t *testing.T, v api.View, from, with Change, want api.Bag, wantBad api.Errno) {
	t.Helper()
	expect(t, "Product", Product, v, from, with, want, wantBad)
}

func expectJoined(t *testing.T, v api.View, from, with Change, want api.Bag, wantBad api.Errno) {
	t.Helper()
	expect(t, "Joined", Joined, v, from, with, want, wantBad)
}

// expectBoth asks both functions where they answer the same: where v's condition is not asked, or always true.
func expectBoth(t *testing.T, v api.View, from, with Change, want api.Bag, wantBad api.Errno) {
	t.Helper()
	expectProduct(t, v, from, with, want, wantBad)
	expectJoined(t, v, from, with, want, wantBad)
}

func expect(t *testing.T, name string, call asked, v api.View, from, with Change, want api.Bag, wantBad api.Errno) {
	t.Helper()
	got, bad := call(v, from, with)
	if bad != wantBad || !sample.Same(got, want) {
		t.Errorf("%s, %s on %v: %s, error %d; want %s, error %d", name, shown(v, from, with), v.On, sample.Show(got), bad, sample.Show(want), wantBad)
	}
}
