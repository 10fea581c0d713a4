package group

import (
	"math"
	"math/big"
	"slices"
	"strings"
	"testing"

	"levee/api"
	"levee/bag"
	"levee/query"
	"levee/row"
	"levee/sample"
)

// fewRows are few in number, rising: rows without a column, null, values that are equal and that are not, numbers whose sums are too great.
func fewRows() []api.Row {
	return []api.Row{
		nil, {{}}, {{}, sample.Num(1)}, {sample.Num(1)}, {sample.Num(1), {}}, {sample.Num(1), sample.Num(math.MinInt)}, {sample.Num(1), sample.Num(1)}, {sample.Num(1), sample.Num(1), sample.Num(5)}, {sample.Num(1), sample.Num(math.MaxInt)}, {sample.Num(2), sample.Num(1)}, {sample.Text("1"), sample.Text("1")},
	}
}

// order compares values out of the words of chapter 1.
func order(a, b api.Value) int {
	switch {
	case a == b:
		return 0
	case a.Kind < b.Kind, a.Kind == b.Kind && a.N < b.N, a.Kind == b.Kind && a.N == b.N && a.S < b.S:
		return -1
	}
	return 1
}

// aggSlowly reckons what the rows of b come to, out of the chapter's words.
func aggSlowly(a api.Agg, b api.Bag) (api.Value, api.Errno) {
	var values []api.Value
	sum, numbers := big.NewInt(0), 0
	for _, c := range b {
		for i, v := range c.Row {
			if i != a.Col || v.Kind == api.Null {
				continue
			}
			values = append(values, v)
			if v.Kind == api.Int {
				numbers++
				sum.Add(sum, new(big.Int).Mul(big.NewInt(int64(v.N)), big.NewInt(int64(c.N))))
			}
		}
	}
	switch a.Fn {
	case api.FnCount:
		return sample.Num(sample.Total(b)), api.OK
	case api.FnSum:
		if numbers == 0 {
			return api.Value{}, api.OK
		}
		if !sum.IsInt64() {
			return api.Value{}, api.ErrQuerySum
		}
		return sample.Num(int(sum.Int64())), api.OK
	case api.FnMin, api.FnMax:
		if len(values) == 0 {
			return api.Value{}, api.OK
		}
		if a.Fn == api.FnMin {
			return slices.MinFunc(values, order), api.OK
		}
		return slices.MaxFunc(values, order), api.OK
	}
	return api.Value{}, api.OK
}

// rowsSlowly reckons the groups of b row by row, out of the chapter's words.
func rowsSlowly(v api.View, b api.Bag) (api.Bag, api.Errno) {
	type group struct {
		picked  api.Row
		members api.Bag
	}
	var groups []group
	for _, c := range b {
		var picked api.Row
		for _, at := range v.Pick {
			if at >= 0 && at < len(c.Row) {
				picked = append(picked, c.Row[at])
			}
		}
		if len(picked) < len(v.Pick) || len(picked) > 40 {
			continue
		}
		at := slices.IndexFunc(groups, func(g group) bool { return slices.Equal(g.picked, picked) })
		if at < 0 {
			at = len(groups)
			groups = append(groups, group{picked: picked})
		}
		groups[at].members = append(groups[at].members, c)
	}
	slices.SortFunc(groups, func(a, b group) int { return slices.CompareFunc(a.picked, b.picked, order) })
	var out api.Bag
	for _, g := range groups {
		if !v.Group {
			out = append(out, api.Count{Row: g.picked, N: sample.Total(g.members)})
			continue
		}
		if len(v.Pick)+len(v.Aggs) > 40 {
			return nil, api.ErrQueryMany
		}
		r := slices.Clone(g.picked)
		for _, a := range v.Aggs {
			x, bad := aggSlowly(a, g.members)
			if bad != api.OK {
				return nil, bad
			}
			r = append(r, x)
		}
		out = append(out, api.Count{Row: r, N: 1})
	}
	return out, api.OK
}

// P11.1: each bag of up to four values of all kinds, by each function.
func TestAllAggs(t *testing.T) {
	var rows []api.Row
	for _, v := range []api.Value{{}, {Kind: api.Bool}, {Kind: api.Bool, N: 1}, sample.Num(math.MinInt), sample.Num(-1), sample.Num(0), sample.Num(3), sample.Num(math.MaxInt), sample.Text(""), sample.Text("a")} {
		rows = append(rows, api.Row{v})
	}
	bags := append(sample.Bags(4, rows, 1, 2), sample.Bags(3, rows, 1, 3, 33333)...)
	for i, b := range bags {
		// The same values in the second column, falling.
		turned := make(api.Bag, len(b))
		for j, c := range b {
			turned[len(b)-1-j] = api.Count{Row: api.Row{sample.Num(-j), c.Row[0]}, N: c.N}
		}
		for _, fn := range append([]int{9, -1}, allFns()[:api.Fns]...) {
			want, wantBad := aggSlowly(of(fn, 0), b)
			expectAgg(t, of(fn, 0), b, want, wantBad)
			expectAgg(t, of(fn, 1), turned, want, wantBad)
		}
		if t.Failed() {
			t.Fatal("bag", i)
		}
	}
}

// allPicks returns all lists of up to two columns, of which some do not exist.
func allPicks() [][]int {
	picks := [][]int{nil}
	for i := 0; i < len(picks) && len(picks[i]) < 2; i++ {
		for _, at := range []int{-1, 0, 1, 2, math.MaxInt} {
			picks = append(picks, append(slices.Clone(picks[i]), at))
		}
	}
	return picks
}

// P11.2: each bag of up to three of a few rows, by each two columns, with each of some lists of aggregates.
func TestAllGroups(t *testing.T) {
	var lists [][]api.Agg
	for fn := -1; fn <= api.Fns; fn++ {
		for col := -1; col < 4; col++ {
			lists = append(lists, []api.Agg{of(fn, col)})
		}
	}
	lists = append(lists, nil, []api.Agg{of(api.FnSum, 1), of(api.FnCount, 0), of(api.FnMax, 1)}, []api.Agg{of(api.FnMin, 1), of(api.FnSum, 0), of(api.FnSum, 2), of(7, 7)}, make([]api.Agg, 38), make([]api.Agg, 39), make([]api.Agg, 40), make([]api.Agg, 41))
	bags := sample.Bags(3, fewRows(), 1, 2)
	for i, b := range bags {
		for j, cols := range allPicks() {
			for k, aggs := range lists {
				if (i+j+k)%3 > 0 {
					continue
				}
				v := api.View{Pick: cols, Group: (i+j+k)%15 > 0, Aggs: aggs}
				want, wantBad := rowsSlowly(v, b)
				expectRows(t, v, b, want, wantBad)
			}
		}
		if t.Failed() {
			t.Fatal(sample.Show(b))
		}
	}
}

// P11.2: what stands behind a group's values is what Agg answers of its rows.
func TestAggsOfGroups(t *testing.T) {
	aggs := []api.Agg{of(api.FnMax, 1), of(api.FnCount, 0), of(api.FnMin, 0), of(api.FnSum, 2), of(api.FnSum, 0), of(-1, 0), of(api.FnMin, 1)}
	for _, b := range sample.Bags(4, fewRows(), 3) {
		for _, cols := range allPicks() {
			rows, bad := Rows(grouped(cols, aggs...), b)
			if bad != api.OK {
				t.Fatalf("%v of %s: error %d", cols, sample.Show(b), bad)
			}
			for _, g := range rows {
				var members api.Bag
				for _, c := range b {
					if r, ok := row.Pick(c.Row, cols); ok && slices.Equal(r, g.Row[:len(cols)]) {
						members = append(members, c)
					}
				}
				for i, a := range aggs {
					if want, bad := Agg(a, members); bad != api.OK || g.Row[len(cols)+i] != want {
						t.Fatalf("%v of %s: %v of group %s is not %v, error %d", cols, sample.Show(b), a, row.Text(g.Row), want, bad)
					}
				}
			}
		}
	}
}

// P11.3: each row that can be picked is in one group, and no group is without rows.
func TestPartition(t *testing.T) {
	for _, b := range sample.Bags(4, fewRows(), 1, 5) {
		for _, cols := range allPicks() {
			rows, bad := Rows(grouped(cols, of(api.FnCount, 0)), b)
			if bad != api.OK {
				t.Fatalf("%v of %s: error %d", cols, sample.Show(b), bad)
			}
			// The groups and how many rows they have are what is picked, with its counts.
			var picked api.Bag
			for _, g := range rows {
				if n := g.Row[len(cols)]; g.N != 1 || n.Kind != api.Int || n.N < 1 {
					t.Fatalf("%v of %s: a group %s", cols, sample.Show(b), row.Text(g.Row))
				}
				picked = append(picked, api.Count{Row: g.Row[:len(cols)], N: g.Row[len(cols)].N})
			}
			if want := query.Pick(grouped(cols), b); !sample.Same(picked, want) {
				t.Fatalf("%v of %s: groups of %s, not of %s", cols, sample.Show(b), sample.Show(picked), sample.Show(want))
			}
			pickable := 0
			for _, c := range b {
				if _, ok := row.Pick(c.Row, cols); ok {
					pickable += c.N
				}
			}
			if sample.Total(picked) != pickable {
				t.Fatalf("%v of %s: %d rows in groups, not %d", cols, sample.Show(b), sample.Total(picked), pickable)
			}
		}
	}
}

// P11.3: rows of other groups change nothing in a group.
func TestGroupsApart(t *testing.T) {
	first, second := sample.Bags(2, []api.Row{{sample.Num(1)}, {sample.Num(1), sample.Num(1)}, {sample.Num(1), sample.Num(4)}, {sample.Num(1), sample.Text("a")}}, 1, 3), sample.Bags(2, []api.Row{{sample.Num(2), {}}, {sample.Num(2), sample.Num(9)}, {sample.Text("1"), sample.Num(1)}}, 2)
	v := grouped([]int{0}, of(api.FnCount, 1), of(api.FnSum, 1), of(api.FnMin, 1), of(api.FnMax, 1))
	for _, a := range first {
		for _, b := range second {
			left, _ := Rows(v, a)
			right, _ := Rows(v, b)
			expectRows(t, v, bag.Plus(a, b), bag.Plus(left, right), api.OK)
		}
	}
}

// P11.2: many groups, of many rows each.
func TestManyGroups(t *testing.T) {
	var b, want api.Bag
	for i := range 300 {
		for j := range 100 {
			b = append(b, api.Count{Row: api.Row{sample.Num(i), sample.Num(j), sample.Text(strings.Repeat("x", j))}, N: j%3 + 1})
		}
		want = append(want, api.Count{Row: api.Row{sample.Num(i), sample.Num(199), sample.Num(9867), sample.Num(0), sample.Text(strings.Repeat("x", 99))}, N: 1})
	}
	expectRows(t, grouped([]int{0}, of(api.FnCount, 0), of(api.FnSum, 1), of(api.FnMin, 1), of(api.FnMax, 2)), b, want, api.OK)
	slow, bad := rowsSlowly(grouped([]int{2, 1}, of(api.FnSum, 0)), b)
	expectRows(t, grouped([]int{2, 1}, of(api.FnSum, 0)), b, slow, bad)
}

// P1: no call panics, whatever it is given; what Rows answers is a valid bag, and an empty one beside an error.
func TestAnything(t *testing.T) {
	bags := append(sample.Invalid(), nil, sample.Bag("()"), sample.Bag("(null) (1)*-5 (1, 1) (true) ('x')"), sample.Bag("(null) (1)*5 (1, 1) (true) ('x')"), rowsOf(100001, 1), rowsOf(1000, 100), sample.One(slices.Repeat(api.Row{sample.Num(math.MaxInt)}, 40), sample.Billion), sample.One(slices.Repeat(api.Row{sample.Num(math.MaxInt)}, 40), 1), sample.One(make(api.Row, 100000), 1))
	numbers := []int{math.MinInt, -41, -1, 0, 1, 2, 3, 4, 39, 40, 41, math.MaxInt}
	var views []api.View
	var aggs []api.Agg
	for i, n := range numbers {
		for j, m := range numbers {
			aggs = append(aggs, of(n, m))
			views = append(views, api.View{Pick: []int{m}, Group: true, Aggs: []api.Agg{of(n, m), of(j, i)}}, api.View{Pick: []int{n, m}, Aggs: []api.Agg{of(n, m)}})
		}
		views = append(views, api.View{Name: "\x00", From: "'", With: "w", On: [2]int{n, n}, Where: make(api.Expr, 100), Pick: slices.Repeat([]int{n}, i*i*10), Group: i%2 > 0, Aggs: slices.Repeat([]api.Agg{of(n, n)}, 1000)})
	}
	views = append(views, someViews()...)
	for i, b := range bags {
		for _, v := range views {
			got, bad := Rows(v, b)
			if bad != api.OK && len(got) != 0 || !bag.May(got) {
				t.Fatalf("bag %d: %s, error %d", i, sample.Show(got), bad)
			}
			if again, badAgain := Rows(v, b); badAgain != bad || !sample.Same(again, got) {
				t.Fatalf("bag %d: %s and then %s", i, sample.Show(got), sample.Show(again))
			}
		}
		for _, a := range aggs {
			if got, bad := Agg(a, b); bad != api.OK && got != (api.Value{}) {
				t.Fatalf("bag %d: %v, error %d", i, got, bad)
			}
		}
	}
}

// keptCases are bags of which something is picked and folded, and some that are refused.
func keptCases() []string {
	return []string{"(1, 5)*2 (1, 6) (2, 5)", "(2, 1)", "(2, 1) (1, 2) (0, 3)", "", "()", "(1)*100000 (1, 2)", "(1, 9223372036854775807)*2", "(1, 1)*-1", "(null, 1) (1, null)*7 ('a', 'b')"}
}

// R4: what is given stays as it is, and so does the room behind it; what is answered shares no memory with it, nor do two rows of one answer.
func TestMemory(t *testing.T) {
	views := []api.View{grouped([]int{0, 1}), grouped([]int{0}, of(api.FnMax, 1), of(api.FnCount, 0)), grouped(nil, of(api.FnMin, 0), of(api.FnSum, 1)), {Pick: []int{0, 1}}, {Pick: []int{1}}}
	for _, s := range keptCases() {
		for i, v := range views {
			rows := func(l ...api.Bag) api.Bag { b, _ := Rows(v, l[0]); return b }
			if fault := sample.Fault(rows, sample.Bag(s)); fault != "" {
				t.Errorf("view %d of %s: %s", i, s, fault)
			}
		}
		for _, fn := range allFns() {
			agg := func(l ...api.Bag) api.Bag { x, _ := Agg(of(fn, 1), l[0]); return sample.One(api.Row{x}, 1) }
			if fault := sample.Fault(agg, sample.Bag(s)); fault != "" {
				t.Errorf("function %d of %s: %s", fn, s, fault)
			}
		}
	}
}

// R4: the view that is given stays as it is, and so does the room behind its lists.
func TestViewKept(t *testing.T) {
	v := grouped(append(make([]int, 0, 6), 1, 0, 1), append(make([]api.Agg, 0, 6), of(api.FnMax, 1), of(api.FnSum, 1), of(api.FnCount, 0))...)
	for _, s := range []string{"(1, 5)*2 (1, 6) (2, 5)", "", "(1, 9223372036854775807)*2"} {
		Rows(v, sample.Bag(s))
		if !slices.Equal(v.Pick[:6], []int{1, 0, 1, 0, 0, 0}) || !slices.Equal(v.Aggs[:6], []api.Agg{of(api.FnMax, 1), of(api.FnSum, 1), of(api.FnCount, 0), {}, {}, {}}) {
			t.Error(s, v.Pick[:6], v.Aggs[:6])
		}
	}
}
