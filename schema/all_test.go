package schema

import (
	"fmt"
	"reflect"
	"slices"
	"strings"
	"testing"

	"levee/api"
	"levee/ddl"
	"levee/expr"
)

// column is what Kinds tells of one.
type column struct {
	kind int
	null bool
}

// columns returns the columns of what has this name in c, which is valid, as the chapter has them: from the definitions alone. A table that is added may be behind c.
func columns(c api.Catalog, name string) []column {
	for _, d := range c {
		if d.Kind == api.DefTable && d.Table.Name == name {
			var l []column
			for _, x := range d.Table.Cols {
				l = append(l, column{x.Kind, x.Null})
			}
			return l
		}
		if d.Kind == api.DefView && d.View.Name == name {
			return viewColumns(c, d.View)
		}
	}
	return nil
}

func isTable(c api.Catalog, name string) bool {
	return slices.ContainsFunc(c, func(d api.Def) bool { return d.Kind == api.DefTable && d.Table.Name == name })
}

func viewColumns(c api.Catalog, v api.View) []column {
	of := slices.Concat(columns(c, v.From), columns(c, v.With))
	var l []column
	for _, p := range v.Pick {
		l = append(l, column{of[p].kind, true})
	}
	for _, a := range v.Aggs {
		switch a.Fn {
		case api.FnCount, api.FnSum:
			l = append(l, column{api.Int, true})
		default:
			l = append(l, column{of[a.Col].kind, true})
		}
	}
	return l
}

func kindsOf(l []column) []int {
	var kinds []int
	for _, x := range l {
		kinds = append(kinds, x.kind)
	}
	return kinds
}

func noTruth(e api.Expr, l []column) bool {
	kind, bad := expr.Type(e, kindsOf(l))
	return bad != api.OK || kind != api.Bool && kind != api.Null
}

// wanted is the error of Add of d to c, which is valid: word for word as the chapter has it.
func wanted(c api.Catalog, d api.Def) api.Errno {
	if !ddl.May(d) {
		return api.ErrArg
	}
	if len(c) == 20 {
		return api.ErrSchemaMany
	}
	name := d.Table.Name + d.View.Name
	if len(columns(c, name)) > 0 {
		return api.ErrSchemaName
	}
	if d.Kind == api.DefView {
		return wantedOfView(c, d.View)
	}
	return wantedOfTable(append(slices.Clone(c), d), d.Table)
}

// wantedOfTable takes c with the table behind it.
func wantedOfTable(c api.Catalog, t api.Table) api.Errno {
	names := map[string]bool{}
	for _, x := range t.Cols {
		names[x.Name] = true
	}
	if first := t.Cols[0]; len(names) < len(t.Cols) || first.Null || first.Kind == api.Bool || first.Ref != "" {
		return api.ErrSchemaCol
	}
	for _, x := range t.Cols {
		if x.Ref != "" && (!isTable(c, x.Ref) || columns(c, x.Ref)[0].kind != x.Kind || x.Act == api.SetNull && !x.Null) {
			return api.ErrSchemaRef
		}
	}
	for _, e := range t.Checks {
		if noTruth(e, columns(c, t.Name)) {
			return api.ErrSchemaCheck
		}
	}
	return api.OK
}

func wantedOfView(c api.Catalog, v api.View) api.Errno {
	from, with := columns(c, v.From), columns(c, v.With)
	of := slices.Concat(from, with)
	n := len(v.Pick) + len(v.Aggs)
	bad := len(from) == 0 || v.With != "" && len(with) == 0 || n == 0 || n > 40 || len(v.Aggs) > 0 && !v.Group || len(v.Where) > 0 && noTruth(v.Where, of)
	if v.With != "" {
		bad = bad || v.On[0] >= len(from) || v.On[1] >= len(with) || from[v.On[0]].kind != with[v.On[1]].kind
	}
	for _, p := range v.Pick {
		bad = bad || p >= len(of)
	}
	for _, a := range v.Aggs {
		bad = bad || a.Fn != api.FnCount && (a.Col >= len(of) || a.Fn == api.FnSum && of[a.Col].kind != api.Int)
	}
	if bad {
		return api.ErrSchemaView
	}
	return api.OK
}

// checkAdd holds Add, May, Find and Kinds of d behind c, which is valid, against the chapter. It stops at the first fault, because there may be many.
func checkAdd(t *testing.T, c api.Catalog, d api.Def) api.Errno {
	t.Helper()
	want := wanted(c, d)
	expectAdd(t, c, d, want)
	longer := append(slices.Clone(c), d)
	for _, name := range []string{"t", "u", "v", "w", "x", "y"} {
		kinds, null, ok := Kinds(longer, name)
		var l []column
		if want == api.OK {
			l = columns(longer, name)
		}
		var got []column
		for i, kind := range kinds {
			got = append(got, column{kind, null[i]})
		}
		if !slices.Equal(got, l) || len(null) != len(kinds) || ok != (len(l) > 0) {
			t.Errorf("%s of %s: %v, %v, %v; want %v", name, shown(longer), kinds, null, ok, l)
		}
		if at := Find(longer, name); want == api.OK && (at >= 0) != ok {
			t.Errorf("%s of %s: at %d", name, shown(longer), at)
		}
	}
	if t.Failed() {
		t.FailNow()
	}
	return want
}

// product returns all texts that have one of each of the lists, one behind the other.
func product(lists ...[]string) []string {
	all := []string{""}
	for _, l := range lists {
		var longer []string
		for _, s := range all {
			for _, part := range l {
				longer = append(longer, s+part)
			}
		}
		all = longer
	}
	return all
}

// expectMany holds that a walk over definitions met both what can be added and each of these errors.
func expectMany(t *testing.T, met map[api.Errno]int, errors ...api.Errno) {
	t.Helper()
	for _, bad := range append(errors, api.OK) {
		if met[bad] < 10 {
			t.Errorf("error %d is met %d times", bad, met[bad])
		}
	}
}

// P9.1, P9.2: all tables of up to two columns, out of a few parts each, behind a catalog of tables and views.
func TestAllTables(t *testing.T) {
	c := catalog(few()...)
	kinds, nulls := []string{" bool", " int", " text"}, []string{"", " null"}
	refs := append([]string{""}, product([]string{" ref "}, []string{"t", "u", "v", "x", "y"}, []string{" restrict", " cascade", " setnull"})...)
	first := product([]string{"k"}, kinds, nulls, []string{"", " ref t cascade", " ref x setnull"})
	second := append([]string{""}, product([]string{", "}, []string{"k", "a"}, kinds, nulls, refs)...)
	checks := []string{"", " check [c0 null ?]", " check [c1 c1 =]", " check [c0 1 <] check [c1 'a' <]"}
	met := map[api.Errno]int{}
	for _, s := range product([]string{"table x("}, first, second, []string{")"}, checks) {
		met[checkAdd(t, c, def(s))]++
	}
	expectMany(t, met, api.ErrSchemaCol, api.ErrSchemaRef, api.ErrSchemaCheck)
}

// P9.1, P9.2: tables of three columns, of which any may be the one that is wrong.
func TestAllWiderTables(t *testing.T) {
	c := catalog(few()...)
	kinds := []string{" int", " text", " text null"}
	refs := []string{"", " ref t cascade", " ref u setnull", " ref v restrict", " ref x cascade"}
	met := map[api.Errno]int{}
	for _, s := range product([]string{"table x(k int, ", "table x(k text, "}, []string{"a"}, kinds, refs, []string{", "}, []string{"k", "a", "b"}, kinds, refs, []string{")"}, []string{"", " check [c2]", " check [c2 'a' =]"}) {
		met[checkAdd(t, c, def(s))]++
	}
	expectMany(t, met, api.ErrSchemaCol, api.ErrSchemaRef, api.ErrSchemaCheck)
}

// P9.1, P9.2: all views out of a few parts, behind a catalog of tables and views.
func TestAllViews(t *testing.T) {
	c := catalog(few()...)
	numbers := []string{"0", "1", "2", "3"}
	joins := append([]string{""}, product([]string{" join "}, []string{"t", "u", "w", "x", "y"}, []string{" on "}, numbers, []string{" = "}, numbers)...)
	wheres := []string{"", " where [c0 c3 =]", " where [c2 null ?]", " where [c1]"}
	results := []string{"", "0", "2, 1", "4", "0, 7", " group", "1 group count", " group count, max 3", "3 group sum 0", " group sum 3, min 1"}
	met := map[api.Errno]int{}
	for _, s := range product([]string{"view x from "}, []string{"t", "u", "v", "w", "x", "y"}, joins, wheres, []string{" pick "}, results) {
		met[checkAdd(t, c, def(s))]++
	}
	expectMany(t, met, api.ErrSchemaView)
}

// P9.1 to P9.3: all catalogs of up to four out of some definitions, each with any other one behind it.
func TestAllCatalogs(t *testing.T) {
	all := catalog(
		"table t(k int)", "table t(k text, a int null ref u cascade)", "table t(k bool)", "table u(k int, a int ref u cascade)", "table u(k int, a int null ref t setnull)", "table u(k text, b bool) check [c1]", "table u(k int) check [c0]", "table v(k int, b bool, a int null)",
		"view v from t pick 0", "view v from t join u on 0 = 1 pick 2", "view v from u where [c1] pick 0 group count", "view w from v pick 0", "view w from v join t on 0 = 0 where [c0 c1 <] pick 1 group max 0, sum 1", "view w from u pick group max 1", "view t from w pick 0, 0", "view x from w join v on 0 = 0 pick 1, 0",
	)
	met := map[api.Errno]int{}
	var extend func(c api.Catalog)
	extend = func(c api.Catalog) {
		for _, d := range all {
			bad := checkAdd(t, c, d)
			met[bad]++
			longer := append(slices.Clone(c), d)
			switch {
			case bad == api.OK && len(longer) < 4:
				extend(longer)
			case bad != api.OK && len(c) < 3:
				expectBadWhole(t, longer, all)
			}
		}
	}
	extend(nil)
	expectMany(t, met, api.ErrSchemaName, api.ErrSchemaCol, api.ErrSchemaRef, api.ErrSchemaCheck, api.ErrSchemaView)
}

// expectBadWhole holds that a catalog that is not valid stays so, whatever is behind it.
func expectBadWhole(t *testing.T, c, all api.Catalog) {
	t.Helper()
	for _, d := range all {
		expectAdd(t, c, d, api.ErrArg)
		expectNoKinds(t, append(slices.Clone(c), d), "t")
	}
}

// P1, R1: whatever a catalog holds, each function comes to an end, without a panic.
func TestAnything(t *testing.T) {
	c := catalog(few()...)
	for name, d := range unprintable() {
		for _, l := range []api.Catalog{{d}, {d, d}, append(copied(c), d), append(api.Catalog{d}, c...), slices.Repeat(api.Catalog{d}, 21)} {
			if May(l) {
				t.Errorf("%s: valid", name)
			}
			for _, s := range []string{"t", "x", "", d.Table.Name, d.View.Name} {
				Find(l, s)
				expectNoKinds(t, l, s)
			}
			expectAdd(t, l, d, api.ErrArg)
		}
	}
	expectBad(t, make(api.Catalog, 100000))
	for _, name := range []string{strings.Repeat("t", 1<<20), "\x00", "\xff", "'", "table t(k int)"} {
		if Find(c, name) != -1 {
			t.Errorf("%q is found", name[:min(len(name), 20)])
		}
		expectNoKinds(t, c, name)
	}
}

// roomy is c with room behind each of its lists, in which there is something already.
func roomy(c api.Catalog) api.Catalog {
	l := append(copied(c), def("table room(k int)"))
	step := api.Node{Op: api.EAdd}
	for i := range l {
		t, v := &l[i].Table, &l[i].View
		for j, e := range t.Checks {
			t.Checks[j] = append(e, step)[:len(e)]
		}
		t.Cols = append(t.Cols, api.Column{Name: "room"})[:len(t.Cols)]
		t.Checks = append(t.Checks, api.Expr{step})[:len(t.Checks)]
		v.Where = append(v.Where, step)[:len(v.Where)]
		v.Pick = append(v.Pick, 9)[:len(v.Pick)]
		v.Aggs = append(v.Aggs, api.Agg{Fn: 9, Col: 9})[:len(v.Aggs)]
	}
	return l[:len(c)]
}

// behind is c, as roomy makes it, with what stands in the room behind its lists.
func behind(c api.Catalog) api.Catalog {
	l := slices.Clone(c[:len(c)+1])
	for i := range l {
		t, v := &l[i].Table, &l[i].View
		t.Cols = t.Cols[:len(t.Cols)+1]
		t.Checks = slices.Clone(t.Checks[:len(t.Checks)+1])
		for j, e := range t.Checks[:len(t.Checks)-1] {
			t.Checks[j] = e[:len(e)+1]
		}
		v.Where = v.Where[:len(v.Where)+1]
		v.Pick = v.Pick[:len(v.Pick)+1]
		v.Aggs = v.Aggs[:len(v.Aggs)+1]
	}
	return copied(l)
}

// filled is a valid catalog in which each list has something.
func filled() api.Catalog {
	return catalog(append(few(), "table x(k int, a int null ref x setnull) check [c0 1 <] check [c1 null ?]", "view y from x join w on 0 = 1 where [c0 c1 =] pick 3, 2 group count, max 0")...)
}

// R4: no call changes a list that it was given, nor what stands behind it, whether it answers an error or not.
func TestKept(t *testing.T) {
	for _, c := range []api.Catalog{filled(), filled()[1:], filled()[:3], nil} {
		for _, d := range append(filled(), def("table z(k int, a int ref t cascade) check [c0 1 <]"), def("view z from t where [c0 1 <] pick 0 group count"), def("view z from t pick 99"), api.Def{Kind: 9}) {
			l, one := roomy(c), roomy(api.Catalog{d})
			before, oneBefore := behind(l), behind(one)
			Add(l, one[0])
			May(l)
			Find(l, "y")
			Kinds(l, "y")
			if !reflect.DeepEqual(behind(l), before) || !reflect.DeepEqual(behind(one), oneBefore) {
				t.Fatalf("%s to %s: changed", shown(one), shown(l))
			}
		}
	}
}

// spoil writes over all that c's lists hold.
func spoil(c api.Catalog) {
	for i := range c {
		clear(c[i].Table.Cols)
		for _, e := range c[i].Table.Checks {
			clear(e)
		}
		clear(c[i].Table.Checks)
		clear(c[i].View.Where)
		clear(c[i].View.Pick)
		clear(c[i].View.Aggs)
	}
	clear(c)
}

// R4: what Add answers shares no memory with what it was given, nor with another answer.
func TestAddNewMemory(t *testing.T) {
	for _, d := range []api.Def{def("table z(k int, a int ref t cascade) check [c0 1 <]"), def("view z from t where [c0 1 <] pick 0 group count")} {
		want := append(filled(), d)
		want = copied(want)
		c, one := roomy(filled()), roomy(api.Catalog{d})
		first, _ := Add(c, one[0])
		second, _ := Add(c, one[0])
		spoil(first)
		if !equal(c, filled()) || !equal(one, want[len(want)-1:]) || !equal(second, want) {
			t.Errorf("%s: shared memory", shown(want[len(want)-1:]))
		}
		spoil(c)
		spoil(one)
		if !equal(second, want) {
			t.Errorf("%s: the answer shares memory with what was given", shown(want[len(want)-1:]))
		}
	}
}

// R4: no two lists of an answer of Add share memory, even where those that were given do.
func TestAddListsApart(t *testing.T) {
	one, view := def("table a(k int, b int) check [c0 1 <]"), def("view v from a where [c0 1 <] pick 0, 1 group sum 0")
	two, again := one, view
	two.Table.Name, again.View.Name = "b", "w"
	two.Table.Checks = slices.Repeat(one.Table.Checks, 2)
	given := api.Catalog{one, two, view, again}
	whole := copied(given)
	answer := func() api.Catalog {
		c, bad := Add(given[:3], given[3])
		if bad != api.OK {
			t.Fatalf("error %d", bad)
		}
		return c
	}
	for i := range whole {
		want, c := copied(whole), answer()
		spoil(c[i : i+1])
		want[i] = api.Def{}
		if !equal(c, want) {
			t.Errorf("definition %d shares memory with another one", i)
		}
		c = answer()
		extendLists(c[i])
		if !equal(c, whole) {
			t.Errorf("what is behind a list of definition %d is another one's", i)
		}
	}
	c := answer()
	clear(c[1].Table.Checks[0])
	if !slices.Equal(c[1].Table.Checks[1], whole[1].Table.Checks[1]) {
		t.Error("two checks of one table share memory")
	}
}

// extendLists writes behind each of d's lists, if there is room.
func extendLists(d api.Def) {
	_ = append(d.Table.Cols, api.Column{Name: "more"})
	_ = append(d.Table.Checks, api.Expr{{Op: 9}})
	for _, e := range d.Table.Checks {
		_ = append(e, api.Node{Op: 9})
	}
	_ = append(d.View.Where, api.Node{Op: 9})
	_ = append(d.View.Pick, 9)
	_ = append(d.View.Aggs, api.Agg{Fn: 9})
}

// R4: what Kinds answers shares no memory with another answer, nor with the catalog.
func TestKindsNewMemory(t *testing.T) {
	c := filled()
	for _, d := range c {
		name := d.Table.Name + d.View.Name
		kinds, null, _ := Kinds(c, name)
		again, nullAgain, _ := Kinds(c, name)
		want := fmt.Sprint(again, nullAgain)
		for i := range kinds {
			kinds[i], null[i] = 9, !null[i]
		}
		_ = append(kinds, 9)
		_ = append(null, false)
		after, nullAfter, _ := Kinds(c, name)
		if fmt.Sprint(again, nullAgain) != want || fmt.Sprint(after, nullAfter) != want || !equal(c, filled()) {
			t.Errorf("%s: shared memory", name)
		}
	}
}
