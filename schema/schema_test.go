package schema

import (
	"fmt"
	"slices"
	"strings"
	"testing"

	"levee/api"
	"levee/ddl"
)

// P9.1, P9.2: the chapter's example.
func TestExample(t *testing.T) {
	c, bad := Add(nil, def("table t(k int)"))
	if bad != api.OK {
		t.Fatalf("error %d", bad)
	}
	c, bad = Add(c, def("view v from t pick 0"))
	if bad != api.OK || !equal(c, catalog("table t(k int)", "view v from t pick 0")) || !May(c) {
		t.Fatalf("%s, error %d", shown(c), bad)
	}
	expectKinds(t, c, "v", "int?")
}

// P9.1, P9.2: a catalog of tables and views, one by one, and whatever it has at any time.
func TestFew(t *testing.T) {
	var c api.Catalog
	for i, s := range few() {
		expectAdded(t, c, api.OK, s)
		c, _ = Add(c, def(s))
		if len(c) != i+1 || !May(c) {
			t.Fatalf("%s: not valid", shown(c))
		}
	}
	expectKinds(t, c, "t", "int text?")
	expectKinds(t, c, "u", "text int? bool")
	expectKinds(t, c, "v", "text? bool? int? text? int?")
	expectKinds(t, c, "w", "text? int?")
	for _, name := range []string{"x", "", "T", "t ", "tt", "k", "a", "table", strings.Repeat("t", 100000)} {
		expectNoKinds(t, c, name)
		expectNoKinds(t, nil, name)
	}
}

// P9.1: the first one of that name, whether the catalog is valid or not.
func TestFind(t *testing.T) {
	c := catalog(few()...)
	both := slices.Concat(c, c)
	for _, l := range []api.Catalog{c, both, append(copied(c), api.Def{Kind: 9})} {
		for i, name := range []string{"t", "u", "v", "w"} {
			if got := Find(l, name); got != i {
				t.Errorf("%s of %s: %d, want %d", name, shown(l), got, i)
			}
		}
		for _, name := range []string{"x", "", "T", "t ", "tt", "k"} {
			if got := Find(l, name); got != -1 {
				t.Errorf("%q of %s: %d, want none", name, shown(l), got)
			}
		}
	}
	if Find(nil, "t") != -1 || Find(nil, "") != -1 || Find(api.Catalog{}, "t") != -1 {
		t.Error("there is something in nothing")
	}
	if got := Find(c[2:], "w"); got != 1 {
		t.Errorf("w of %s: %d", shown(c[2:]), got)
	}
}

// P9.1: the name is that of what the kind tells, not of what else a definition holds.
func TestFindByKind(t *testing.T) {
	named := api.Def{Table: api.Table{Name: "a"}, View: api.View{Name: "b"}}
	as := func(kind int) api.Def {
		d := named
		d.Kind = kind
		return d
	}
	c := api.Catalog{as(-1), as(api.DefKinds), as(api.DefView), as(api.DefTable), {}, {Kind: api.DefView}}
	for name, want := range map[string]int{"a": 3, "b": 2, "": 4, "c": -1} {
		if got := Find(c, name); got != want {
			t.Errorf("%q: %d, want %d", name, got, want)
		}
	}
	if got := Find(api.Catalog{{Kind: api.DefView}}, ""); got != 0 {
		t.Errorf("a view without a name: %d", got)
	}
	long := make(api.Catalog, 100000)
	long[99999] = def("table t(k int)")
	if got := Find(long, "t"); got != 99999 {
		t.Errorf("the last one of many: %d", got)
	}
}

// P9.1: the empty catalog, and prefixes of a valid one, are valid; other parts of it only where they hold all that they refer to.
func TestMay(t *testing.T) {
	if !May(nil) || !May(api.Catalog{}) {
		t.Error("the empty catalog is not valid")
	}
	c := catalog(few()...)
	for n := range len(c) + 1 {
		if !May(c[:n]) {
			t.Errorf("%s: not valid", shown(c[:n]))
		}
	}
	for n := 1; n < len(c); n++ {
		expectBad(t, c[n:])
		expectBad(t, slices.Concat(c[n:], c[:n]))
		expectBad(t, slices.Concat(c, c[n:]))
	}
	expectBad(t, slices.Concat(c, c))
	if !May(slices.Concat(c[:2], c[:0], c[2:])) {
		t.Error("a catalog put together is not valid")
	}
}

// P9.3: a catalog is valid in just those orders in which each definition stands behind all that it refers to.
func TestOrders(t *testing.T) {
	all := catalog("table t(k int)", "table u(k int, a int ref t cascade, b int ref u cascade)", "view v from t pick 0", "view w from v join u on 0 = 1 pick 0, 1", "view x from w join w on 0 = 0 pick 3")
	needs := [][]int{{}, {0}, {0}, {1, 2}, {3}}
	var extend func(order []int)
	extend = func(order []int) {
		var c api.Catalog
		want := true
		for at, i := range order {
			c = append(c, all[i])
			for _, need := range needs[i] {
				want = want && slices.Contains(order[:at], need)
			}
		}
		if May(c) != want {
			t.Errorf("%s: May is %v", shown(c), !want)
		}
		if !want {
			expectBad(t, c)
		}
		for i := range all {
			if !slices.Contains(order, i) {
				extend(append(slices.Clone(order), i))
			}
		}
	}
	extend(nil)
}

// P9.2: 20 definitions, and no more.
func TestMany(t *testing.T) {
	l := tables(22)
	expectAdded(t, catalog(l[:18]...), api.OK, l[18])
	expectAdded(t, catalog(l[:19]...), api.OK, l[19], "view v from a18 pick 0")
	full := catalog(l[:20]...)
	if !May(full) {
		t.Error("20 definitions are not valid")
	}
	expectKinds(t, full, "a19", "int")
	// Whatever else is wrong with a definition, but that it is valid.
	expectAdded(t, full, api.ErrSchemaMany, l[20], l[0], l[19], "view v from a00 pick 0", "table x(k bool, k bool ref y cascade) check [c9]", "view a05 from y pick 9")
	for _, d := range unprintable() {
		expectAdd(t, full, d, api.ErrArg)
	}
	expectBad(t, catalog(l[:21]...))
	expectBad(t, catalog(l...))
	expectBad(t, slices.Repeat(full, 10000))
	// Views count as tables do.
	views := []string{"table t(k int)"}
	for i := range 20 {
		views = append(views, fmt.Sprintf("view v%d from t pick 0", i))
	}
	expectAdded(t, catalog(views[:19]...), api.OK, views[19])
	expectAdded(t, catalog(views[:20]...), api.ErrSchemaMany, views[20], "table u(k int)")
	expectBad(t, catalog(views...))
}

// P9.2: a name that is there already, as a table's or as a view's.
func TestNames(t *testing.T) {
	c := catalog(few()...)
	for _, name := range []string{"t", "u", "v", "w"} {
		expectAdded(t, c, api.ErrSchemaName, "table "+name+"(k int)", "view "+name+" from t pick 0", "view "+name+" from "+name+" pick 0", "table "+name+"(k int, a int ref "+name+" cascade)")
	}
	expectAdded(t, c, api.OK, "table x(k int)", "view x from t pick 0", "table k(t int, u int, v int, w int)", "table t_(t int)")
}

// P9.2: a table's columns.
func TestColumns(t *testing.T) {
	c := catalog(few()...)
	expectAdded(t, c, api.OK,
		"table x(k int)", "table x(k text)", "table x(k int unique)", "table x(x int)", "table x(k int, a bool)", "table x(k int, a bool null)", "table x(k int, a int null unique, b text unique)", "table x(k int, kk int, k_ int)", wide("x", 40))
	expectAdded(t, c, api.ErrSchemaCol,
		"table x(k int, k int)", "table x(k int, k text null)", "table x(k int, a int, k int)", "table x(k int, a int, a int)", "table x(k int, a int, b int, a bool)", wide("x", 39)[:len(wide("x", 39))-1]+", c0 int)", wide("x", 39)[:len(wide("x", 39))-1]+", c38 int)",
		"table x(k int null)", "table x(k text null)", "table x(k int null unique)", "table x(k int null, a int)",
		"table x(k bool)", "table x(k bool null)", "table x(k bool unique)", "table x(k bool, a int)",
		"table x(k int ref t cascade)", "table x(k int ref t restrict)", "table x(k int null ref t setnull)", "table x(k int ref x cascade)", "table x(k int ref y cascade)", "table x(k text ref u cascade, a int)")
}

// P9.2: what a table's columns refer to.
func TestRefs(t *testing.T) {
	c := catalog(few()...)
	for _, act := range []string{" restrict", " cascade"} {
		for _, null := range []string{"", " null", " unique", " null unique"} {
			column := func(kind, ref string) string { return "table x(k int, a " + kind + null + " ref " + ref + act + ")" }
			expectAdded(t, c, api.OK, column("int", "t"), column("text", "u"), column("int", "x"))
			expectAdded(t, c, api.ErrSchemaRef,
				column("text", "t"), column("bool", "t"), column("int", "u"), column("bool", "u"), column("text", "x"), column("bool", "x"),
				column("int", "v"), column("text", "v"), column("bool", "v"), column("int", "w"), column("text", "w"), column("int", "y"), column("text", "y"), column("int", "a"), column("int", "k"))
		}
	}
	expectAdded(t, c, api.OK,
		"table x(k int, a int null ref t setnull)", "table x(k int, a int null unique ref x setnull)", "table x(k text, a text null ref x setnull, b text null ref u setnull, c int ref t restrict)", "table x(k text, a text ref x cascade)", "table x(k int, a int ref t cascade, b int ref t restrict)")
	expectAdded(t, c, api.ErrSchemaRef,
		"table x(k int, a int ref t setnull)", "table x(k int, a int unique ref t setnull)", "table x(k int, a int ref x setnull)", "table x(k int, a text null ref t setnull)", "table x(k int, a int null ref y setnull)",
		"table x(k text, a int ref x cascade)", "table x(k int, a int ref t cascade, b int ref y cascade)", "table x(k int, a int ref y cascade, b int ref t cascade)", "table x(k int, a int null ref t setnull, b int ref t setnull)", "table x(k int, a int null, b int ref t setnull)")
}

// P9.3: what is referred to is not there yet, though it comes at once.
func TestLaterTable(t *testing.T) {
	x, y := "table x(k int, a int ref y cascade)", "table y(k int, a int ref x cascade)"
	expectAdded(t, nil, api.ErrSchemaRef, x, y)
	expectBad(t, catalog(x, "table y(k int)"))
	expectBad(t, catalog(x, y))
	expectBad(t, catalog(y, x))
	if !May(catalog("table y(k int)", x)) {
		t.Error("a table that refers to an earlier one is not valid")
	}
}

// P9.2: the kinds of checks.
func TestChecks(t *testing.T) {
	c := catalog(few()...)
	head := "table x(k int, a text null, b bool null)"
	good := []string{"[c2]", "[true]", "[false]", "[null]", "[c0 1 <]", "[c0 c0 =]", "[c1 'a' =]", "[c1 null ?]", "[null null ?]", "[c2 not]", "[null not]", "[c2 c0 5 < and c1 null ? or]", "[c0 1 + 9223372036854775807 =]", "[null null =]", "[c2 c2 <]"}
	bad := []string{"[ ]", "[c0]", "[c1]", "[5]", "['a']", "[c0 1 +]", "[null null *]", "[c3]", "[c99]", "[c3 null ?]", "[c0 c1 =]", "[c1 1 <]", "[c0 not]", "[c2 c0 and]", "[c1 1 +]", "[true true]", "[c2 c2]", "[and]", "[not]", "[c0 <]", "[null ?]", "[c2 or]"}
	for _, s := range good {
		expectAdded(t, c, api.OK, head+" check "+s, head+" check "+s+" check "+s, head+" check [true] check "+s, "table y(k int, a text, b bool) check "+s)
	}
	for _, s := range bad {
		expectAdded(t, c, api.ErrSchemaCheck, head+" check "+s, head+" check [true] check "+s, head+" check "+s+" check [true]", head+strings.Repeat(" check [c2]", 39)+" check "+s)
	}
	expectAdded(t, c, api.OK, head+strings.Repeat(" check [c2]", 40), head)
	// The columns are the table's own, not those of what it refers to.
	expectAdded(t, c, api.ErrSchemaCheck, "table x(k int, a int ref t cascade) check [c2 null ?]")
	// 100 steps, and the last one counts.
	steps := "table x(k int) check [c0 c0 =" + strings.Repeat(" not", 96)
	expectAdded(t, c, api.OK, steps+" not]")
	expectAdded(t, c, api.ErrSchemaCheck, steps+" c0]")
}

// P9.2: of two errors of a table, the one that the chapter names first, whatever the order of the parts is.
func TestTableTwoErrors(t *testing.T) {
	c := catalog(few()...)
	expectAdded(t, c, api.ErrSchemaName, "table t(k bool)", "table t(k int, a int ref y cascade)", "table t(k int) check [c0]", "table v(k int, k int ref y cascade) check [c0]")
	expectAdded(t, c, api.ErrSchemaCol,
		"table x(k bool, a int ref y cascade)", "table x(k int, a int ref y cascade, a int)", "table x(k int null) check [c0]", "table x(k int, k int) check [c0]", "table x(k int ref y cascade) check [c0]", "table x(k bool, a text ref t setnull) check [c9]")
	expectAdded(t, c, api.ErrSchemaRef, "table x(k int, a int ref y cascade) check [c0]", "table x(k int, a text ref t cascade) check [c9]", "table x(k int, a int ref t setnull) check [ ]", "table x(k int, a int ref v cascade) check [true] check [c0]")
}

// P9.2: what views are of.
func TestViewSources(t *testing.T) {
	c := catalog(few()...)
	for _, from := range []string{"t", "u", "v", "w"} {
		expectAdded(t, c, api.OK, "view x from "+from+" pick 0", "view x from "+from+" join "+from+" on 0 = 0 pick 0")
		for _, none := range []string{"y", "x", "k"} {
			expectAdded(t, c, api.ErrSchemaView, "view x from "+none+" pick 0", "view x from "+none+" pick group count", "view x from "+from+" join "+none+" on 0 = 0 pick 0", "view x from "+none+" join "+from+" on 0 = 0 pick 0")
		}
	}
	expectAdded(t, nil, api.ErrSchemaView, "view x from x pick 0", "view x from y pick 0", "view x from x pick group count")
}

// P9.2: the columns that views join by: t has int, text; u text, int, bool; v text, bool, int, text, int; w text, int.
func TestJoins(t *testing.T) {
	c := catalog(few()...)
	kinds := map[string][]int{"t": {api.Int, api.Text}, "u": {api.Text, api.Int, api.Bool}, "v": {api.Text, api.Bool, api.Int, api.Text, api.Int}, "w": {api.Text, api.Int}}
	for from, a := range kinds {
		for with, b := range kinds {
			for i := range 8 {
				for j := range 8 {
					want := api.ErrSchemaView
					if i < len(a) && j < len(b) && a[i] == b[j] {
						want = api.OK
					}
					expectAdded(t, c, want, fmt.Sprintf("view x from %s join %s on %d = %d pick 0", from, with, i, j))
				}
			}
			expectAdded(t, c, api.ErrSchemaView, "view x from "+from+" join "+with+" on 99 = 99 pick 0", "view x from "+from+" join "+with+" on 0 = 99 pick 0", "view x from "+from+" join "+with+" on 99 = 0 pick 0")
			// What is joined are all columns of both, and no more.
			n := len(a) + len(b)
			on := fmt.Sprintf("on %d = %d", slices.Index(a, api.Text), slices.Index(b, api.Text))
			expectAdded(t, c, api.OK, fmt.Sprintf("view x from %s join %s %s pick %d", from, with, on, n-1), fmt.Sprintf("view x from %s join %s %s where [c%d null ?] pick group min %d", from, with, on, n-1, n-1))
			expectAdded(t, c, api.ErrSchemaView, fmt.Sprintf("view x from %s join %s %s pick %d", from, with, on, n), fmt.Sprintf("view x from %s join %s %s where [c%d null ?] pick 0", from, with, on, n), fmt.Sprintf("view x from %s join %s %s pick group min %d", from, with, on, n))
		}
	}
}

// P9.2: conditions of views.
func TestWheres(t *testing.T) {
	c := catalog(few()...)
	expectAdded(t, c, api.OK,
		"view x from t pick 0", "view x from t where [ ] pick 0", "view x from t where [true] pick 0", "view x from t where [null] pick 0", "view x from t where [c0 5 <] pick 0", "view x from t where [c1 null ?] pick group count", "view x from u where [c2] pick 0",
		"view x from v where [c1] pick 0", "view x from t join u on 0 = 1 where [c0 c3 =] pick 0", "view x from t join u on 0 = 1 where [c4] pick 0", "view x from t join u on 0 = 1 where [c1 c2 = c4 and] pick 0", "view x from t join t on 0 = 0 where [c3 c1 <] pick 0")
	expectAdded(t, c, api.ErrSchemaView,
		"view x from t where [c0] pick 0", "view x from t where [c1] pick 0", "view x from t where [5] pick 0", "view x from t where ['a'] pick 0", "view x from t where [c0 1 +] pick 0", "view x from t where [c2] pick 0", "view x from t where [c2 null ?] pick 0", "view x from t where [c99 null ?] pick 0", "view x from t where [c0 c1 =] pick 0", "view x from t where [true true] pick 0", "view x from t where [not] pick 0",
		"view x from u where [c3 null ?] pick 0", "view x from t join u on 0 = 1 where [c5 null ?] pick 0", "view x from t join u on 0 = 1 where [c0 c2 =] pick 0", "view x from u join t on 1 = 0 where [c4] pick 0", "view x from v where [c2] pick 0")
}

// P9.2: picks and aggregates, just within what there is and just beyond.
func TestResults(t *testing.T) {
	c := catalog(few()...)
	expectAdded(t, c, api.OK,
		"view x from t pick 1", "view x from t pick 0, 1", "view x from t pick 1, 1, 0", "view x from v pick 4", "view x from t pick 0 group", "view x from t pick 0, 1 group count",
		"view x from t pick group count", "view x from t pick group count, count", "view x from t pick group sum 0", "view x from t pick group min 1", "view x from t pick group max 1", "view x from t pick group min 0, max 0", "view x from u pick group min 2, max 2, sum 1", "view x from v pick 0 group sum 2, sum 4, max 1",
		"view x from t join u on 0 = 1 pick 4 group sum 3, max 4", "view x from u join t on 1 = 0 pick 4 group sum 3, max 4")
	expectAdded(t, c, api.ErrSchemaView,
		"view x from t pick 2", "view x from t pick 99", "view x from t pick 0, 2", "view x from t pick 2, 0", "view x from v pick 5", "view x from t pick 2 group", "view x from t pick 2 group count",
		"view x from t pick group sum 2", "view x from t pick group min 2", "view x from t pick group max 2", "view x from t pick group max 99", "view x from t pick 0 group count, min 2", "view x from t pick 0 group min 2, count", "view x from v pick group max 5",
		"view x from t pick group sum 1", "view x from u pick group sum 0", "view x from u pick group sum 2", "view x from t pick 0 group count, sum 1", "view x from v pick group sum 3", "view x from v pick group sum 1",
		"view x from t join u on 0 = 1 pick 5", "view x from t join u on 0 = 1 pick group max 5", "view x from t join u on 0 = 1 pick group sum 2", "view x from t join u on 0 = 1 pick group sum 4")
}

// P9.2: aggregates go with groups alone: such a definition is not valid at all, and would be none if it were.
func TestAggregatesWithoutGroup(t *testing.T) {
	c := catalog(few()...)
	d := def("view x from t pick 0 group count")
	d.View.Group = false
	expectAdd(t, c, d, api.ErrArg)
	l, _ := sourcesOf(c)
	if s, bad := viewOf(l, d.View); bad != api.ErrSchemaView || s.name != "" || len(s.kinds)+len(s.null) != 0 {
		t.Errorf("%v, error %d", s, bad)
	}
	d.View.Aggs = nil
	expectAdd(t, c, d, api.OK)
}

// P9.2: views of 0, 1, 40 and 41 columns.
func TestViewColumns(t *testing.T) {
	c := catalog(wide("t", 40))
	aggs := func(n int) string { return strings.TrimSuffix(strings.Repeat("count, ", n), ", ") }
	expectAdded(t, c, api.OK, "view v from t pick 0", "view v from t pick group count", "view v from t pick "+numbers(40), "view v from t pick "+numbers(40)+" group", "view v from t pick group "+aggs(40), "view v from t pick "+numbers(39)+" group count", "view v from t pick 0 group "+aggs(39), "view v from t pick "+numbers(20)+" group "+aggs(20))
	expectAdded(t, c, api.ErrSchemaView, "view v from t pick", "view v from t pick group", "view v from t where [true] pick", "view v from t pick "+numbers(40)+" group count", "view v from t pick 0 group "+aggs(40), "view v from t pick "+numbers(21)+" group "+aggs(20), "view v from t pick "+numbers(40)+" group "+aggs(40))
	// What is joined may have more columns than a view may.
	join := "view v from t join t on 39 = 39 where [c79 null ?] pick "
	expectAdded(t, c, api.OK, join+"79", join+"40, 79 group sum 79")
	expectAdded(t, c, api.ErrSchemaView, join+"80", join+"0 group sum 80", join)
}

// P9.1: kinds of views over views, each column of which may be null.
func TestKindsOverViews(t *testing.T) {
	c := catalog(
		"table t(k text, a int, b bool unique)",
		"view v from t pick 2, 0, 1, 0",
		"view w from v join t on 3 = 0 where [c0 c6 =] pick 6, 5, 4, 2, 0",
		"view x from w pick 0, 2 group count, sum 1, min 2, max 0, min 1",
		"view y from x pick group max 6, min 5, count",
		"view z from y join x on 1 = 0 pick 1, 0, 2, 3, 4, 5, 6, 7, 8, 9",
		"view keys from t pick 0",
	)
	expectKinds(t, c, "t", "text int bool")
	expectKinds(t, c, "v", "bool? text? int? text?")
	expectKinds(t, c, "w", "bool? int? text? int? bool?")
	expectKinds(t, c, "x", "bool? text? int? int? text? bool? int?")
	expectKinds(t, c, "y", "int? bool? int?")
	expectKinds(t, c, "z", "bool? int? int? bool? text? int? int? text? bool? int?")
	expectKinds(t, c, "keys", "text?")
}

// P9.1: kinds of tables, and 20 views, each of the one ahead of it.
func TestKindsDeep(t *testing.T) {
	texts := []string{"table a00(k int, a text null, b bool)"}
	for i := 1; i < 20; i++ {
		texts = append(texts, fmt.Sprintf("view a%02d from a%02d pick 2, 0, 1", i, i-1))
	}
	c := catalog(texts...)
	kinds := []string{"int", "text", "bool"}
	expectKinds(t, c, "a00", "int text? bool")
	for i := 1; i < 20; i++ {
		kinds = []string{kinds[2], kinds[0], kinds[1]}
		expectKinds(t, c, fmt.Sprintf("a%02d", i), strings.Join(kinds, "? ")+"?")
	}
}

// P9.1, P9.2: a fault in the first, a middle or the last definition of a catalog, in each of the functions.
func TestBadCatalogs(t *testing.T) {
	faults := unprintable()
	for i, s := range []string{
		"table t(k int)", "table x(k int, k int)", "table x(k bool)", "table x(k int ref x cascade)", "table x(k int, a int ref y cascade)", "table x(k int, a text ref x cascade)", "table x(k int, a int ref x setnull)", "table x(k int) check [c0]", "table x(k int) check [ ]",
		"view x from y pick 0", "view x from x pick 0", "view x from t pick 99", "view x from t pick", "view x from t where [c0] pick 0", "view x from t join x on 0 = 0 pick 0", "view x from t join t on 0 = 1 pick 0", "view x from t pick group sum 99",
	} {
		faults[fmt.Sprint(i)] = def(s)
	}
	whole := catalog(few()...)
	for name, d := range faults {
		for at := range len(whole) + 1 {
			// A table t more makes the catalog invalid wherever it is, in the place of another definition as well as between two.
			expectBad(t, slices.Insert(copied(whole), at, d))
			if at > 0 {
				expectBad(t, slices.Concat(whole[:at], api.Catalog{d}, whole[min(at+1, len(whole)):]))
			}
			if d.Table.Name != "t" {
				expectBad(t, slices.Concat(whole[:at], api.Catalog{d}))
			}
		}
		if t.Failed() {
			t.Fatal(name)
		}
	}
}

// P9.2: a definition that is not valid, whatever else is wrong with it, for each way in which it is not.
func TestBadDefinitions(t *testing.T) {
	for name, d := range unprintable() {
		if ddl.May(d) {
			t.Errorf("%s: valid", name)
		}
		for _, c := range []api.Catalog{nil, catalog(few()...), catalog(tables(19)...), catalog("table x(k int)")} {
			expectAdd(t, c, d, api.ErrArg)
		}
	}
}
