package query

import (
	"slices"
	"testing"

	"levee/api"
	"levee/sample"
)

// on is a join by these columns.
func on(left, right int) api.View { return api.View{With: "w", On: [2]int{left, right}} }

// where is a view with the condition that s holds.
func where(s string) api.View {
	return api.View{Where: sample.Def("view v from t where [" + s + "] pick 0").View.Where}
}

func pick(l ...int) api.View { return api.View{Pick: l} }

// equal is a row of n values v.
func equal(v api.Value, n int) api.Row { return slices.Repeat(api.Row{v}, n) }

// onesOf returns the rows of no ones, one, two, .., which are there as often as counts says.
func onesOf(counts []int) api.Bag {
	var b api.Bag
	for i, n := range counts {
		if n != 0 {
			b = append(b, api.Count{Row: equal(sample.Num(1), i), N: n})
		}
	}
	return b
}

// pairsOf returns rows (v, 0), (v, 1), .., n of them.
func pairsOf(v, n int) api.Bag {
	var b api.Bag
	for i := range n {
		b = append(b, api.Count{Row: api.Row{sample.Num(v), sample.Num(i)}, N: 1})
	}
	return b
}

func expectProduct(t *testing.T, v api.View, from, with, want api.Bag, wantBad api.Errno) {
	t.Helper()
	got, bad := Product(v, from, with)
	if bad != wantBad || !sample.Same(got, want) {
		t.Errorf("%q on %v of %s and %s: %s, error %d; want %s, error %d", v.With, v.On, sample.Show(from), sample.Show(with), sample.Show(got), bad, sample.Show(want), wantBad)
	}
}

func expectMany(t *testing.T, v api.View, from, with api.Bag) {
	t.Helper()
	expectProduct(t, v, from, with, nil, api.ErrQueryMany)
}

func expectWhere(t *testing.T, v api.View, b, want api.Bag, wantBad api.Errno) {
	t.Helper()
	got, bad := Where(v, b)
	if bad != wantBad || !sample.Same(got, want) {
		t.Errorf("%v of %s: %s, error %d; want %s, error %d", v.Where, sample.Show(b), sample.Show(got), bad, sample.Show(want), wantBad)
	}
}

func expectPick(t *testing.T, v api.View, b, want api.Bag) {
	t.Helper()
	if got := Pick(v, b); !sample.Same(got, want) {
		t.Errorf("%v of %s: %s; want %s", v.Pick, sample.Show(b), sample.Show(got), sample.Show(want))
	}
}
