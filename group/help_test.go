package group

import (
	"math"
	"slices"
	"testing"

	"levee/api"
	"levee/sample"
)

// view is the view whose picks and aggregates s holds, as behind `pick`.
func view(s string) api.View {
	return sample.Def("view v from t pick " + s).View
}

// grouped is a view that groups by these columns.
func grouped(cols []int, l ...api.Agg) api.View {
	return api.View{Pick: cols, Group: true, Aggs: l}
}

func of(fn, col int) api.Agg { return api.Agg{Fn: fn, Col: col} }

// ones is a bag of rows of one number each: numbers and counts in turn.
func ones(l ...int) api.Bag {
	var b api.Bag
	for i := 0; i < len(l); i += 2 {
		b = append(b, api.Count{Row: api.Row{sample.Num(l[i])}, N: l[i+1]})
	}
	return b
}

// rowsOf returns rows (0), (1), .., n of them, each there times times.
func rowsOf(n, times int) api.Bag {
	var b api.Bag
	for i := range n {
		b = append(b, api.Count{Row: api.Row{sample.Num(i)}, N: times})
	}
	return b
}

func expectRows(t *testing.T, v api.View, b, want api.Bag, wantBad api.Errno) {
	t.Helper()
	got, bad := Rows(v, b)
	if bad != wantBad || !sample.Same(got, want) {
		t.Errorf("pick %v group %v %v of %s: %s, error %d; want %s, error %d", v.Pick, v.Group, v.Aggs, sample.Show(b), sample.Show(got), bad, sample.Show(want), wantBad)
	}
}

func expectAgg(t *testing.T, a api.Agg, b api.Bag, want api.Value, wantBad api.Errno) {
	t.Helper()
	got, bad := Agg(a, b)
	if bad != wantBad || got != want {
		t.Errorf("%v of %s: %v, error %d; want %v, error %d", a, sample.Show(b), got, bad, want, wantBad)
	}
}

// allFns holds the four functions, and some that are none of them.
func allFns() []int {
	return []int{api.FnCount, api.FnSum, api.FnMin, api.FnMax, api.Fns, -1, math.MinInt, math.MaxInt, 1 << 32}
}

// someViews holds views that group and that do not, of few columns and of too many, with and without aggregates.
func someViews() []api.View {
	views := []api.View{{}, {Group: true}, {Pick: []int{0}}, {Pick: []int{9}}, {Pick: make([]int, 41)}, {Aggs: []api.Agg{{}}}}
	for _, fn := range allFns() {
		views = append(views, grouped(nil, of(fn, 0)), grouped([]int{0}, of(fn, 1)), grouped([]int{1, 0}, of(fn, -1), of(fn, 2)))
		views = append(views, grouped(make([]int, 41), of(fn, 0)), grouped(nil, slices.Repeat([]api.Agg{of(fn, 0)}, 41)...))
	}
	return views
}

// expectRefused holds what all calls answer of b against bad.
func expectRefused(t *testing.T, b api.Bag, bad api.Errno) {
	t.Helper()
	for _, fn := range allFns() {
		for _, col := range []int{-1, 0, 1, 7} {
			expectAgg(t, of(fn, col), b, api.Value{}, bad)
		}
	}
	for _, v := range someViews() {
		expectRows(t, v, b, nil, bad)
	}
}
