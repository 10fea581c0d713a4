package view

import (
	"math"
	"slices"
	"strings"
	"testing"

	"levee/api"
	"levee/bag"
	"levee/expr"
	"levee/group"
	"levee/query"
	"levee/sample"
	"levee/schema"
)

// listed returns each row of b as often as its count says.
func listed(b api.Bag) []api.Row {
	var l []api.Row
	for _, c := range b {
		for range c.N {
			l = append(l, c.Row)
		}
	}
	return l
}

// viewSlowly returns the joined rows and the rows of v, which may be in a catalog and has no error, row by row, out of the words of chapters 10 and 11.
func viewSlowly(v api.View, from, with []api.Row) (joined, rows []api.Row) {
	for _, a := range from {
		if v.With == "" {
			joined = append(joined, a)
		}
		for _, b := range with {
			if x := a[v.On[0]]; v.With != "" && x == b[v.On[1]] && x.Kind != api.Null {
				joined = append(joined, slices.Concat(a, b))
			}
		}
	}
	joined = slices.DeleteFunc(joined, func(r api.Row) bool { holds, _ := expr.True(v.Where, r); return !holds })
	var groups [][]api.Row
	for _, r := range joined {
		var picked api.Row
		for _, at := range v.Pick {
			picked = append(picked, r[at])
		}
		at := slices.IndexFunc(rows, func(other api.Row) bool { return slices.Equal(picked, other) })
		if at < 0 || !v.Group {
			at = len(rows)
			rows, groups = append(rows, picked), append(groups, nil)
		}
		groups[at] = append(groups[at], r)
	}
	for i := range rows {
		for _, a := range v.Aggs {
			rows[i] = append(rows[i], aggSlowly(a, groups[i]))
		}
	}
	return joined, rows
}

// aggSlowly returns what rows come to, where all values of a column are of one kind, or null.
func aggSlowly(a api.Agg, rows []api.Row) api.Value {
	if a.Fn == api.FnCount {
		return sample.Num(len(rows))
	}
	var out api.Value
	for _, r := range rows {
		v := r[a.Col]
		switch {
		case v.Kind == api.Null:
		case out.Kind == api.Null:
			out = v
		case a.Fn == api.FnSum:
			out.N += v.N
		case a.Fn == api.FnMin:
			out.N, out.S = min(out.N, v.N), min(out.S, v.S)
		default:
			out.N, out.S = max(out.N, v.N), max(out.S, v.S)
		}
	}
	return out
}

// allSlowly returns what All returns for a catalog that is valid and rows of its tables, where no view has an error.
func allSlowly(c api.Catalog, base []api.Source) []api.Source {
	var l []api.Source
	rows := map[string][]api.Row{}
	for _, d := range c {
		name := d.Table.Name + d.View.Name
		if d.Kind == api.DefView {
			_, rows[name] = viewSlowly(d.View, rows[d.View.From], rows[d.View.With])
		}
		for _, s := range slices.Backward(base) {
			if d.Kind == api.DefTable && s.Name == name {
				rows[name] = listed(s.Rows)
			}
		}
		l = append(l, api.Source{Name: name, Rows: bag.Of(rows[name])})
	}
	return l
}

// smallBags returns bags of few rows of a number and a number or null.
func smallBags() []api.Bag {
	return sample.Bags(2, []api.Row{{sample.Num(0), {}}, {sample.Num(0), sample.Num(1)}, {sample.Num(1), sample.Num(0)}, {sample.Num(1), sample.Num(1)}, {sample.Num(2), sample.Num(1)}}, 1, 2)
}

// P12.2: all small tables t and u, and what many views make of them.
func TestAllTables(t *testing.T) {
	c := sample.Catalog(turns()...)
	texts := sample.Bags(3, []api.Row{{sample.Text("")}, {sample.Text("a")}, {sample.Text("b")}}, 1, 3)
	for i, a := range smallBags() {
		for j, b := range smallBags() {
			base := []api.Source{{Name: "u", Rows: b}, {Name: "z", Rows: texts[(i+3*j)%len(texts)]}, {Name: "t", Rows: a}}
			expectAll(t, c, base, allSlowly(c, base))
			if t.Failed() {
				t.FailNow()
			}
		}
	}
}

// P12.1: all small bags, by views of them.
func TestEvalAll(t *testing.T) {
	for _, s := range []string{"from t pick 1", "from t where [c0 c1 =] pick 1, 0", "from t pick 1 group count, sum 0, max 1, min 1", "from t join u on 1 = 0 pick 3, 0", "from t join u on 0 = 0 where [c1 c3 < not] pick 1, 3 group count", "from t join u on 1 = 1 pick group sum 0, min 2", "from t where [c1 null?] pick group max 0, count"} {
		v := parsed(s)
		for _, from := range smallBags() {
			for _, with := range smallBags() {
				joined, rows := viewSlowly(v, listed(from), listed(with))
				expectEval(t, v, from, with, bag.Of(joined), bag.Of(rows))
				if t.Failed() {
					t.FailNow()
				}
			}
		}
	}
}

// manyBags are bags of all kinds: valid ones with negative and with great counts, with long rows and with many rows, and some that are not valid.
func manyBags() []api.Bag {
	bags := []api.Bag{nil, sample.Bag("()"), sample.Bag("()*-2 (1)*3"), sample.Bag("(null) (1)*-5 (1, 1) (true) ('x')"), sample.Bag("(null) (1)*5 (1, 1) (true) ('x')"), sample.Bag("(1)*1000000000 (" + most + ")*2"), sample.Bag("(1, " + most + ") (1, " + least + ")*3"), sample.Bag("(1)*100001"), sample.Bag("(0, 1) (1, 0)*2 (2, 1)"), bagsOf(101), sample.One(wideRow(40), 1), sample.One(wideRow(20), 7), sample.One(wideRow(21), 1)}
	return append(bags, sample.Invalid()[:7]...)
}

// manyViews are views that may be in a catalog and such that may not.
func manyViews() []api.View {
	var views []api.View
	numbers := []int{math.MinInt, -1, 0, 1, 2, 40, 41, math.MaxInt}
	wheres := []api.Expr{nil, parsed("from t where [c0 1 + 3 <] pick").Where, parsed("from t where [c1] pick").Where, parsed("from t where [c1 null? not] pick").Where, {{Op: -1}}, make(api.Expr, 101), {{Op: api.ECol, N: math.MinInt}, {Op: api.EIsNull}}}
	for i, n := range numbers {
		for j, w := range wheres {
			v := api.View{With: []string{"", "w", "\xff"}[(i+j)%3], On: [2]int{max(j-3, 0), max(i-2, 0)}, Where: w, Pick: []int{n}[:j%2], Group: i%2 > 0, Aggs: []api.Agg{{Fn: j - 1, Col: n}, {Fn: api.FnSum}}[:j%3]}
			views = append(views, v)
			v.With, v.Where = "w", nil
			views = append(views, v)
			v.On, v.Pick = [2]int{n, j}, slices.Repeat([]int{0}, i*j)
			views = append(views, v)
		}
	}
	return views
}

// evalByCalls returns what Eval is to return: what the layers below it answer, one after the other.
func evalByCalls(v api.View, from, with api.Bag) (api.Bag, api.Bag, api.Errno) {
	if !bag.May(from) || !bag.May(with) {
		return nil, nil, api.ErrArg
	}
	product, bad := query.Product(v, from, with)
	joined, badWhere := query.Where(v, product)
	rows, badRows := group.Rows(v, joined)
	for _, e := range []api.Errno{bad, badWhere, badRows} {
		if e != api.OK {
			return nil, nil, e
		}
	}
	return joined, rows, api.OK
}

// P12.1, P1: Eval does what the layers below it do, whatever it is given, and answers nothing beside an error.
func TestEvalCalls(t *testing.T) {
	seen := map[api.Errno]int{}
	for _, v := range manyViews() {
		for i, from := range manyBags() {
			for j, with := range manyBags() {
				if v.With == "" && j%5 != i%5 {
					continue
				}
				joined, rows, want := evalByCalls(v, from, with)
				if want != api.OK {
					expectEvalError(t, v, from, with, want)
				} else {
					expectEval(t, v, from, with, joined, rows)
				}
				if t.Failed() {
					t.Fatalf("%+v", v)
				}
				seen[want]++
			}
		}
	}
	for _, e := range []api.Errno{api.OK, api.ErrArg, api.ErrExprType, api.ErrExprOverflow, api.ErrQueryMany, api.ErrQuerySum} {
		if seen[e] == 0 {
			t.Error("no view has error", e)
		}
	}
}

// allByEval returns what All is to return for a catalog that is valid and rows that are: what Eval answers, one view after the other.
func allByEval(c api.Catalog, base []api.Source) ([]api.Source, api.Errno) {
	var l []api.Source
	for _, d := range c {
		s := api.Source{Name: d.Table.Name, Rows: Find(base, d.Table.Name)}
		if d.Kind == api.DefView {
			var bad api.Errno
			s.Name = d.View.Name
			if _, s.Rows, bad = Eval(d.View, Find(l, d.View.From), Find(l, d.View.With)); bad != api.OK {
				return nil, bad
			}
		}
		l = append(l, s)
	}
	return l, api.OK
}

// P12.2: All does what Eval does, one view after the other, also where views have errors.
func TestAllByEval(t *testing.T) {
	c := sample.Catalog(append(turns(), "view x from w where [c2 1 + 5 <] pick 0", "view y from x pick group sum 0")...)
	seen := map[api.Errno]int{}
	for i, a := range manyBags() {
		for j, b := range manyBags() {
			base := []api.Source{{Name: "t", Rows: a}, {Name: "z", Rows: a}, {Name: "u", Rows: b}, {Name: "t", Rows: b}}[(i+j)%2:]
			want, bad := allByEval(c, base)
			for _, s := range base {
				if !bag.May(s.Rows) {
					want, bad = nil, api.ErrArg
				}
			}
			got, gotBad := All(c, base)
			if gotBad != bad || !sample.SameSources(got, want) {
				t.Fatalf("of %s: %s, error %d; want %s, error %d", sample.ShowSources(base), sample.ShowSources(got), gotBad, sample.ShowSources(want), bad)
			}
			seen[bad]++
		}
	}
	for _, e := range []api.Errno{api.OK, api.ErrArg, api.ErrExprType, api.ErrExprOverflow, api.ErrQueryMany} {
		if seen[e] == 0 {
			t.Error("no rows have error", e)
		}
	}
}

// P12.3: the rows of a definition are the same, whatever is defined behind it.
func TestBehind(t *testing.T) {
	c := sample.Catalog(turns()...)
	all, bad := All(c, turnsBase())
	if bad != api.OK {
		t.Fatal(bad)
	}
	for i := range len(c) + 1 {
		expectAll(t, c[:i], turnsBase(), all[:i])
		// One more definition, of any of those ahead of it.
		for j := range i {
			name := c[j].Table.Name + c[j].View.Name
			d := sample.Def("view more from " + name + " pick group count")
			want := all[:i:i]
			if n := sample.Total(all[j].Rows); n > 0 {
				want = append(want, api.Source{Name: "more", Rows: sample.One(api.Row{sample.Num(n)}, 1)})
			}
			expectAll(t, append(c[:i:i], d), turnsBase(), want)
		}
	}
	// And whatever is defined ahead of it that it is not of.
	for i := range c {
		less := slices.Delete(slices.Clone(c), i, i+1)
		if schema.May(less) {
			expectAll(t, less, turnsBase(), slices.Delete(slices.Clone(all), i, i+1))
		}
	}
	if less := sample.Catalog(turns()[0], turns()[1], turns()[4]); schema.May(less) {
		expectAll(t, less, turnsBase(), []api.Source{all[0], all[1], all[4]})
	}
}

// comesFrom reports whether the definition with this name is the table, or is of it.
func comesFrom(c api.Catalog, name, table string) bool {
	at := schema.Find(c, name)
	if at < 0 {
		return false
	}
	return name == table || comesFrom(c, c[at].View.From, table) || comesFrom(c, c[at].View.With, table)
}

// P12.3: rows of other tables are nothing to a view.
func TestOtherTables(t *testing.T) {
	c := sample.Catalog(turns()...)
	all, _ := All(c, turnsBase())
	for at, s := range turnsBase() {
		changed := make([]int, len(c))
		for _, rows := range []api.Bag{nil, s.Rows[:1], s.Rows[1:], bag.Plus(s.Rows, s.Rows), bag.Plus(s.Rows, s.Rows[1:])} {
			base := turnsBase()
			base[at].Rows = rows
			got, bad := All(c, base)
			if bad != api.OK || len(got) != len(all) {
				t.Fatalf("%s is %s: error %d", s.Name, sample.Show(rows), bad)
			}
			for i, d := range got {
				if sample.Same(d.Rows, all[i].Rows) {
					continue
				}
				changed[i]++
				if !comesFrom(c, d.Name, s.Name) {
					t.Errorf("%s is %s: %s is %s", s.Name, sample.Show(rows), d.Name, sample.Show(d.Rows))
				}
			}
		}
		// What comes from it does change with it.
		for i, d := range all {
			if comesFrom(c, d.Name, s.Name) && changed[i] == 0 {
				t.Errorf("%s does not change with %s", d.Name, s.Name)
			}
		}
	}
}

// P12.2: which place a table has in base, and what else is there, is nothing to what is answered.
func TestBaseOrder(t *testing.T) {
	c := sample.Catalog(turns()...)
	base := turnsBase()
	want, _ := All(c, base)
	for _, order := range [][]int{{0, 1, 2}, {0, 2, 1}, {1, 0, 2}, {1, 2, 0}, {2, 0, 1}, {2, 1, 0}} {
		var turned []api.Source
		for _, at := range order {
			turned = append(turned, sample.Sources("x", "(1, 1)", "v", "(1, 2)*3", "", "(null)")...)
			turned = append(turned, base[at])
		}
		// What is behind the first of a name does not count.
		turned = append(turned, sample.Sources("t", "(1)*-1", "u", "('a')", "z", "", "q", "()", "x", "(2)")...)
		expectAll(t, c, turned, want)
	}
}

// P12.3: without rows in the tables, all views are empty.
func TestNoRows(t *testing.T) {
	c := sample.Catalog(append(turns(), "view x from t pick group count", "view y from x pick group count, sum 0", "view m from t where [c1 null?] pick 0 group")...)
	var want []api.Source
	for _, d := range c {
		want = append(want, api.Source{Name: d.Table.Name + d.View.Name})
	}
	for _, base := range [][]api.Source{nil, {}, sample.Sources("t", "", "u", "", "z", ""), sample.Sources("t", "", "t", "(1, 1)"), sample.Sources("x", "(1)", "v", "(1, 1)", "", "()"), {{Name: "t", Rows: api.Bag{}}}} {
		expectAll(t, c, base, want)
	}
	for _, v := range manyViews() {
		expectEval(t, v, nil, nil, nil, nil)
		expectEval(t, v, api.Bag{}, api.Bag{}, nil, nil)
	}
}

// P1: no call panics, whatever it is given; and what All answers beside an error is empty.
func TestAnything(t *testing.T) {
	var catalogs []api.Catalog
	for i, v := range manyViews() {
		v.Name, v.From = "v", []string{"t", "v", "", "x"}[i%4]
		d := api.Def{Kind: i%5 - 1, View: v}
		catalogs = append(catalogs, api.Catalog{d}, api.Catalog{sample.Def(turns()[0]), d}, slices.Concat(sample.Catalog(turns()...), api.Catalog{d, d}))
		d.Kind = api.DefView
		catalogs = append(catalogs, sample.Catalog("table t(k int, a int null)", "table w(k int)"), api.Catalog{sample.Def("table t(k int)"), sample.Def("table w(k int)"), d})
	}
	catalogs = append(catalogs, faultyCatalogs()...)
	catalogs = append(catalogs, nil, make(api.Catalog, 10000), slices.Repeat(sample.Catalog(turns()...), 50))
	bags := manyBags()
	for i, c := range catalogs {
		for j := range 4 {
			base := []api.Source{{Name: "t", Rows: bags[(i+j*5)%len(bags)]}, {Name: "w", Rows: bags[(i*3+j)%len(bags)]}, {Name: strings.Repeat("\x00", i), Rows: bags[(i*7+j)%len(bags)]}}[:max(j, 2)]
			got, bad := All(c, base)
			if bad != api.OK && len(got) != 0 || bad == api.OK && len(got) != len(c) {
				t.Fatalf("catalog %d: %s, error %d", i, sample.ShowSources(got), bad)
			}
			if again, badAgain := All(c, base); badAgain != bad || !sample.SameSources(got, again) {
				t.Fatalf("catalog %d: %s and then %s", i, sample.ShowSources(got), sample.ShowSources(again))
			}
			for _, s := range got {
				expectFind(t, got, s.Name, s.Rows)
			}
			expectFind(t, base, base[0].Name, base[0].Rows)
		}
	}
}

// R4: what is given stays as it is, and so does the room behind it; what is answered shares no memory with it, nor do two bags or two rows of one answer.
func TestMemory(t *testing.T) {
	for _, s := range []string{"from t pick 0", "from t pick 0, 1", "from t where [c0 2 <] pick 0, 1", "from t join u on 0 = 0 pick 0, 1, 2", "from t join t on 0 = 1 pick 0", "from t pick 0 group", "from t pick 0, 1 group", "from t pick 0 group count, sum 1", "from t join u on 1 = 1 pick group max 1", "from t where [c0 'a' <] pick 0"} {
		v := parsed(s)
		eval := func(l []api.Source) []api.Source {
			joined, rows, _ := Eval(v, l[0].Rows, l[1].Rows)
			return []api.Source{{Rows: joined}, {Rows: rows}}
		}
		for _, l := range [][]api.Source{sample.Sources("", "(1, 5)*2 (1, 6) (2, 5)", "", "(1, 1)*3 (2, 5)"), sample.Sources("", "(1, 0)", "", ""), sample.Sources("", "", "", "(1, 1)"), sample.Sources("", "() (1)*-1", "", "(1, 5)"), {{Rows: sample.Invalid()[0]}, {Rows: sample.Bag("(1, 5)")}}} {
			if fault := sample.SourcesFault(eval, l); fault != "" {
				t.Errorf("%s of %s: %s", s, sample.ShowSources(l), fault)
			}
		}
	}
	bases := [][]api.Source{turnsBase(), nil, sample.Sources("t", "(1, 1)*2", "t", "(2, 2)", "x", "(3)", "u", "(1, 1)"), sample.Sources("t", "(1, 1)", "u", "(1)*-1", "z", "(1)"), {{Name: "t", Rows: sample.Invalid()[3]}}}
	for _, defs := range [][]string{turns(), {"table t(k int, a int)", "view v from t pick 0, 1", "view w from v pick 0, 1"}, {"table t(k int)", "table u(k int)"}, turns()[1:]} {
		all := func(l []api.Source) []api.Source { out, _ := All(sample.Catalog(defs...), l); return out }
		for i, base := range bases {
			if fault := sample.SourcesFault(all, base); fault != "" {
				t.Errorf("base %d: %s", i, fault)
			}
		}
	}
	for _, base := range bases {
		for _, name := range []string{"t", "u", "x", ""} {
			find := func(l []api.Source) []api.Source { return []api.Source{{Rows: Find(l, name)}, {Rows: Find(l, name)}} }
			if fault := sample.SourcesFault(find, base); fault != "" {
				t.Errorf("%q in %s: %s", name, sample.ShowSources(base), fault)
			}
		}
	}
}

// R4: the rows of one bag that is given twice, as from and as with, and as the rows of two tables, stay as they are.
func TestSharedRows(t *testing.T) {
	b := sample.Bag("(1, 1)*2 (2, 1)")
	shared := sample.Behind(b)
	expectEval(t, parsed("from t join t on 0 = 1 pick 0, 2"), shared, shared, sample.Bag("(1, 1, 1, 1)*4 (1, 1, 2, 1)*2"), sample.Bag("(1, 1)*4 (1, 2)*2"))
	c := sample.Catalog("table t(k int, a int)", "table u(k int, a int)", "view v from t join u on 1 = 1 pick 0, 2")
	base := []api.Source{{Name: "t", Rows: shared}, {Name: "u", Rows: shared}}
	l, bad := All(c, base)
	if bad != api.OK || !sample.Same(sample.Whole(shared), sample.Whole(sample.Behind(b))) {
		t.Fatal(sample.ShowSources(l), bad)
	}
	// The rows of two tables are apart, even if those that were given are the same.
	sample.Scribble(l[0].Rows)
	if !sample.Same(l[1].Rows, b) || !sample.Same(shared, b) {
		t.Error(sample.ShowSources(l))
	}
}

// R4: the catalog, and the view, that is given stays as it is, and so does the room behind its lists.
func TestCatalogKept(t *testing.T) {
	for _, defs := range [][]string{turns(), turns()[1:], append(turns(), "view x from t pick group sum 0")} {
		c := sample.Catalog(defs...)
		for _, base := range [][]api.Source{nil, turnsBase(), sample.Sources("t", "("+most+", 1)*2"), {{Rows: make(api.Bag, 1)}}} {
			if fault := sample.CatalogFault(func(c api.Catalog) { All(c, base) }, c); fault != "" {
				t.Error(sample.ShowSources(base), fault)
			}
			eval := func(c api.Catalog) {
				for _, d := range c {
					Eval(d.View, Find(base, "t"), Find(base, "u"))
				}
			}
			if fault := sample.CatalogFault(eval, c); fault != "" {
				t.Error(sample.ShowSources(base), fault)
			}
		}
	}
}
