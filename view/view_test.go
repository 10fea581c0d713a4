package view

import (
	"slices"
	"strings"
	"testing"

	"levee/api"
	"levee/bag"
	"levee/sample"
	"levee/schema"
)

// P12.2: the chapter's example.
func TestExample(t *testing.T) {
	c := sample.Catalog("table t(k int, a int null)", "view inner from t where [c1 6 <] pick 1, 0", "view outer from inner pick 0 group count, max 1")
	expectAll(t, c, sample.Sources("t", "(1, 5) (2, 5) (3, 6) (4, null)"), sample.Sources("t", "(1, 5) (2, 5) (3, 6) (4, null)", "inner", "(5, 1) (5, 2)", "outer", "(5, 2, 2)"))
}

// P12.1: the joined rows and the rows of views, written out by hand.
func TestEval(t *testing.T) {
	for _, c := range []struct{ view, from, with, joined, rows string }{
		// Of one table, without a With: it is not asked what the rows of it are.
		{"from t pick 0", "", "", "", ""},
		{"from t pick 0", "", "(1, 5)", "", ""},
		{"from t pick 0, 1", "(1, 5)*2 (2, 6)", "", "(1, 5)*2 (2, 6)", "(1, 5)*2 (2, 6)"},
		{"from t pick 0, 1", "(1, 5)*2 (2, 6)", "(1, 5)*9 (2, 7)", "(1, 5)*2 (2, 6)", "(1, 5)*2 (2, 6)"},
		{"from t pick 0", "(1)*100000", "(1)*100000", "(1)*100000", "(1)*100000"},
		// The joined rows are as they are before the picks, and rise as they are.
		{"from t pick 1, 0", "(1, 'b')*2 (2, 'a')", "", "(1, 'b')*2 (2, 'a')", "('a', 2) ('b', 1)*2"},
		{"from t pick 1", "(1, 5) (2, 5)*2 (3, null)", "", "(1, 5) (2, 5)*2 (3, null)", "(null) (5)*3"},
		{"from t pick 0, 0", "(1, 5) (1, 6)", "", "(1, 5) (1, 6)", "(1, 1)*2"},
		// Also those of which nothing is picked.
		{"from t pick 1", "() (1)*3 (2, 5)", "", "() (1)*3 (2, 5)", "(5)"},
		{"from t pick 7", "(1)*3 (2, 5)", "", "(1)*3 (2, 5)", ""},
		{"from t pick", "(1)*3 (2, 5)", "", "(1)*3 (2, 5)", "()*4"},
		{"from t pick 7 group count, sum 0", "(1)*3 (2, 5)", "", "(1)*3 (2, 5)", ""},
		// But not those that the condition leaves out.
		{"from t where [c1 6 <] pick 0", "(1, 5) (2, 6) (3, 5)*4", "", "(1, 5) (3, 5)*4", "(1) (3)*4"},
		{"from t where [c1 null?] pick 0", "(1, 5) (2, null)", "", "(2, null)", "(2)"},
		{"from t where [c1 c0 <] pick 0", "(1, 5) (2, null) (3, 1)", "", "(3, 1)", "(3)"},
		{"from t where [c1] pick 0", "(1, true) (2, false) (3, null) (4, true)*2", "", "(1, true) (4, true)*2", "(1) (4)*2"},
		{"from t where [true] pick 0", "(1, 5)*2", "", "(1, 5)*2", "(1)*2"},
		{"from t where [] pick 0", "(1, 5)*2", "", "(1, 5)*2", "(1)*2"},
		// Nothing meets the condition.
		{"from t where [false] pick 0", "(1, 5)*2", "", "", ""},
		{"from t where [null] pick 0", "(1, 5)*2", "", "", ""},
		{"from t where [c1 4 <] pick 0", "(1, 5)*2 (2, 7)", "", "", ""},
		{"from t where [c1 4 <] pick 0 group", "(1, 5)*2 (2, 7)", "", "", ""},
		{"from t where [c1 4 <] pick group count, sum 0, min 1", "(1, 5)*2 (2, 7)", "", "", ""},
		{"from t join u on 0 = 0 where [c0 c2 = not] pick 0", "(1, 5)*2", "(1, 7)", "", ""},
		// A condition of another kind is never true, and no error.
		{"from t where [1] pick 0", "(1)*2", "", "", ""},
		{"from t where ['true'] pick 0", "(1)*2", "", "", ""},
		{"from t where [c0 1 +] pick 0", "(1)*2", "", "", ""},
		{"from t where [c0] pick 0", "(1) ('a') (true)*3", "", "(true)*3", "(true)*3"},
		// Joins: of two tables.
		{"from t join u on 0 = 0 pick 0", "(1, 5)", "", "", ""},
		{"from t join u on 0 = 0 pick 0", "", "(1, 5)", "", ""},
		{"from t join u on 0 = 0 pick 0", "(1, 5)", "(2, 5)", "", ""},
		{"from t join u on 1 = 0 pick 0, 3", "(1, 5)*2 (2, 6) (3, null) (4, 5)", "(5, 'a')*3 (6, 'b') (7, 'c')", "(1, 5, 5, 'a')*6 (2, 6, 6, 'b') (4, 5, 5, 'a')*3", "(1, 'a')*6 (2, 'b') (4, 'a')*3"},
		{"from t join u on 0 = 1 pick 2", "(5, 'a')*3 (6, 'b')", "(1, 5)*2 (2, 6) (3, null)", "(5, 'a', 1, 5)*6 (6, 'b', 2, 6)", "(1)*6 (2)"},
		{"from t join u on 1 = 1 where [c0 c2 <] pick 0, 2", "(1, 5) (4, 5)*2", "(2, 5) (3, 5) (9, 5) (9, 6)", "(1, 5, 2, 5) (1, 5, 3, 5) (1, 5, 9, 5) (4, 5, 9, 5)*2", "(1, 2) (1, 3) (1, 9) (4, 9)*2"},
		{"from t join u on 1 = 1 where [c3 c1 =] pick 1 group count, sum 2", "(1, 5) (4, 5)*2 (4, 6)", "(2, 5) (3, 5)", "(1, 5, 2, 5) (1, 5, 3, 5) (4, 5, 2, 5)*2 (4, 5, 3, 5)*2", "(5, 6, 15)"},
		{"from t join u on 0 = 0 pick 1, 3", "(true, 2) (1, 3) ('a', 1) ('b', 4)*2", "(false, 8) (true, 4) ('1', 6) ('a', 3)*5 ('b', 7)", "(true, 2, true, 4) ('a', 1, 'a', 3)*5 ('b', 4, 'b', 7)*2", "(2, 4) (1, 3)*5 (4, 7)*2"},
		// Of a table with itself.
		{"from t join t on 0 = 1 pick 0, 2", "(1, 2) (2, 1)*2 (3, 3)", "(1, 2) (2, 1)*2 (3, 3)", "(1, 2, 2, 1)*2 (2, 1, 1, 2)*2 (3, 3, 3, 3)", "(1, 2)*2 (2, 1)*2 (3, 3)"},
		{"from t join t on 0 = 0 pick 1, 3", "(1, 2) (1, 3)*2", "(1, 2) (1, 3)*2", "(1, 2, 1, 2) (1, 2, 1, 3)*2 (1, 3, 1, 2)*2 (1, 3, 1, 3)*4", "(2, 2) (2, 3)*2 (3, 2)*2 (3, 3)*4"},
		// Groups: from the joined rows, each as often as it is there.
		{"from t pick 0 group", "(1, 5)*2 (1, 6) (2, 5)", "", "(1, 5)*2 (1, 6) (2, 5)", "(1) (2)"},
		{"from t pick 0 group count, sum 1", "(1, 5)*2 (1, 6) (2, null)", "", "(1, 5)*2 (1, 6) (2, null)", "(1, 3, 16) (2, 1, null)"},
		{"from t where [c1 6 <] pick 0 group count, max 1", "(1, 5)*2 (1, 6) (2, 7)", "", "(1, 5)*2", "(1, 2, 5)"},
		{"from t pick group count, min 1", "(1, 5)*2 (1, 6)", "", "(1, 5)*2 (1, 6)", "(3, 5)"},
		{"from t pick group count", "()*7", "", "()*7", "(7)"},
		// Negative counts that are left out, or that make positive ones, are no error.
		{"from t where [0 c0 <] pick 0", "(0)*-4 (1)*2", "", "(1)*2", "(1)*2"},
		{"from t join u on 0 = 0 pick 1", "(1)*-2 (3)*-1", "(1)*-3 (2)*-1", "(1, 1)*6", "(1)*6"},
		{"from t join u on 0 = 0 where [c0 1 = not] pick 1 group count", "(1)*-2 (3)*-1", "(1)*3 (3)*-5", "(3, 3)*5", "(3, 5)"},
		// No columns that are picked or joined: null is joined with nothing.
		{"from t join u on 0 = 1 pick 0", "() (null) (1)", "() (null) (1)", "", ""},
		{"from t join u on 9 = 0 pick 0", "(1)", "(1)", "", ""},
	} {
		expectEval(t, parsed(c.view), sample.Bag(c.from), sample.Bag(c.with), sample.Bag(c.joined), sample.Bag(c.rows))
	}
}

// P12.1: Eval does not ask what v's name is, nor whether v could be in a catalog.
func TestEvalAlone(t *testing.T) {
	from, rows := sample.Bag("(1, 5)*2 (2, 6)"), sample.Bag("(5)*2 (6)")
	expectEval(t, api.View{Pick: []int{1}}, from, nil, from, rows)
	expectEval(t, api.View{Name: "table", From: "\x00", On: [2]int{-1, 99}, Pick: []int{1}, Aggs: make([]api.Agg, 50)}, from, nil, from, rows)
	expectEval(t, api.View{With: "'", On: [2]int{1, 1}, Pick: []int{1}}, from, sample.Bag("(0, 6)*3"), sample.Bag("(2, 6, 0, 6)*3"), sample.Bag("(6)*3"))
	expectEval(t, api.View{Pick: []int{0}, Group: true, Aggs: []api.Agg{{Fn: 7}, {Fn: api.FnMax, Col: -1}}}, from, nil, from, sample.Bag("(1, null, null) (2, null, null)"))
	expectEval(t, api.View{Pick: []int{-1}, Group: true}, from, nil, from, nil)
	expectEval(t, api.View{}, from, nil, from, sample.Bag("()*3"))
}

// P12.1: the error of Product, of Where and of group.Rows, each alone; and of two of them, the first one.
func TestEvalErrors(t *testing.T) {
	many, wide := bagsOf(101), sample.One(wideRow(21), 1)
	great := sample.Bag("(1, 1)*1000000000")
	for _, c := range []struct {
		view       string
		from, with api.Bag
		want       api.Errno
	}{
		// Product: pairs, counts and values that are too many.
		{"from t join u on 0 = 0 pick 0", many, many[:99], api.OK},
		{"from t join u on 0 = 0 pick 0", many, many[:100], api.ErrQueryMany},
		{"from t join u on 0 = 0 where [c1 2 <] pick 0", many, many[:100], api.ErrQueryMany},
		{"from t join u on 0 = 0 where [false] pick 0", great, sample.Bag("(1)*2"), api.ErrQueryMany},
		{"from t join u on 0 = 0 where [false] pick 0", wide, wide, api.ErrQueryMany},
		{"from t join u on 0 = 0 pick 7 group", wide, wide, api.ErrQueryMany},
		{"from t join u on 0 = 0 pick 0", wide, sample.One(wideRow(19), 1), api.OK},
		{"from t join u on 0 = 0 pick 0", wide, sample.One(wideRow(20), 1), api.ErrQueryMany},
		// They are asked of joins alone.
		{"from t pick 0", many, many, api.OK},
		{"from t pick 0", wide, wide, api.OK},
		{"from t where [false] pick 0", great, sample.Bag("(1)*2"), api.OK},
		// Where: a type error and an overflow, in any row.
		{"from t where [c0 5 <] pick 0", sample.Bag("(true) (1)"), nil, api.ErrExprType},
		{"from t where [c0 5 <] pick 0", sample.Bag("(1) ('a')"), nil, api.ErrExprType},
		{"from t where [c0 5 <] pick 7", sample.Bag("(1) ('a') ('b')"), nil, api.ErrExprType},
		{"from t where [c1 5 <] pick 0", sample.Bag("(1)"), nil, api.ErrExprType},
		{"from t where [and] pick 0", sample.Bag("(1)"), nil, api.ErrExprType},
		{"from t where [and] pick 0", nil, nil, api.OK},
		{"from t where [c0 1 + 0 <] pick 0", sample.Bag("(1) (" + most + ")"), nil, api.ErrExprOverflow},
		{"from t where [c0 1 - 0 <] pick 0", sample.Bag("(" + least + ") (1)"), nil, api.ErrExprOverflow},
		{"from t where [c0 c0 * 0 <] pick 0 group count", sample.Bag("(1) (3037000500)"), nil, api.ErrExprOverflow},
		{"from t where [c0 1 - 0 <] pick 0", sample.Bag("(" + least + ") ('a')"), nil, api.ErrExprOverflow},
		{"from t where [c0 1 - 0 <] pick 0", sample.Bag("(true) (" + least + ")"), nil, api.ErrExprType},
		{"from t join u on 0 = 0 where [c1 c2 <] pick 0", sample.Bag("(1, 5) (2, 'a')"), sample.Bag("(1) (2)"), api.ErrExprType},
		// It is asked of rows that are joined alone.
		{"from t join u on 0 = 0 where [c1 c2 <] pick 0", sample.Bag("(1, 5) (2, 'a')"), sample.Bag("(1)"), api.OK},
		{"from t where [c0 5 <] pick 0", sample.Bag("(1)"), sample.Bag("('a')"), api.OK},
		// group.Rows: a negative count, rows that are too many, a sum that is too great.
		{"from t pick 0", sample.Bag("(1)*-1"), nil, api.ErrArg},
		{"from t pick 0 group count", sample.Bag("(1) (2)*-1 (3)"), nil, api.ErrArg},
		{"from t pick 7", sample.Bag("(1)*-1"), nil, api.ErrArg},
		{"from t join u on 0 = 0 pick 0", sample.Bag("(1) (2)"), sample.Bag("(2)*-1"), api.ErrArg},
		{"from t pick 0", sample.Bag("(1)*100000"), nil, api.OK},
		{"from t pick 0", sample.Bag("(1)*100001"), nil, api.ErrQueryMany},
		{"from t pick 7 group", sample.Bag("(1)*99999 (2) (3)"), nil, api.ErrQueryMany},
		{"from t join u on 0 = 0 pick 0", sample.Bag("(1)*317"), sample.Bag("(1)*316"), api.ErrQueryMany},
		{"from t pick group sum 0", sample.Bag("(1) (" + most + ")"), nil, api.ErrQuerySum},
		{"from t pick 1 group sum 0", sample.Bag("(1, 1) (" + least + ", 2)*2"), nil, api.ErrQuerySum},
		{"from t pick " + strings.Repeat("0, ", 39) + "0 group", sample.Bag("(1)"), nil, api.OK},
		{"from t pick " + strings.Repeat("0, ", 39) + "0 group count", sample.Bag("(1)"), nil, api.ErrQueryMany},
		// It is asked of rows that meet the condition alone.
		{"from t where [c0 3 <] pick 0", sample.Bag("(1) (3)*-1"), nil, api.OK},
		{"from t where [c0 3 <] pick 0", sample.Bag("(1) (3)*100001"), nil, api.OK},
		{"from t where [c0 3 <] pick group sum 0", sample.Bag("(1) (" + most + ")"), nil, api.OK},
		{"from t pick 0", sample.Bag("(1)"), sample.Bag("(1)*-1"), api.OK},
		// Product and Where.
		{"from t join u on 0 = 0 where [c0 'a' <] pick 0", many, many, api.ErrQueryMany},
		{"from t join u on 0 = 0 where [and] pick 0", great, great, api.ErrQueryMany},
		{"from t join u on 0 = 0 where [c0 " + most + " + 0 <] pick 0", wide, wide, api.ErrQueryMany},
		// Product and group.Rows.
		{"from t join u on 0 = 0 pick 0", many, bag.Neg(many), api.ErrQueryMany},
		{"from t join u on 0 = 0 pick 0", great, bag.Neg(great), api.ErrQueryMany},
		{"from t join u on 0 = 0 pick group sum 1", bag.Plus(great, sample.Bag("(2, "+most+")")), bag.Plus(great, sample.Bag("(2)*2")), api.ErrQueryMany},
		// Where and group.Rows.
		{"from t where [c0 5 <] pick 0", sample.Bag("(1)*-1 ('a')"), nil, api.ErrExprType},
		{"from t where [c0 1 + 0 < not] pick 0", sample.Bag("(1)*-1 (" + most + ")"), nil, api.ErrExprOverflow},
		{"from t where [c0 5 <] pick 0", sample.Bag("(1)*100001 ('a')*-1"), nil, api.ErrExprType},
		{"from t where [c0 1 + 0 < not] pick 0", sample.Bag("(1)*100001 (" + most + ")"), nil, api.ErrExprOverflow},
		{"from t where [c1 5 <] pick group sum 0", sample.Bag("(1, 1) (" + most + ", 2) (" + most + ", 'a')"), nil, api.ErrExprType},
		{"from t where [c1 1 + 5 <] pick group sum 0", sample.Bag("(" + most + ", 1)*2 (" + most + ", " + most + ")"), nil, api.ErrExprOverflow},
		// All three.
		{"from t join u on 0 = 0 where [c1 'a' <] pick 0 group sum 0", many, bag.Neg(many), api.ErrQueryMany},
	} {
		v := parsed(c.view)
		if c.want != api.OK {
			expectEvalError(t, v, c.from, c.with, c.want)
		} else if _, _, bad := Eval(v, c.from, c.with); bad != api.OK {
			t.Errorf("%s of %s and %s: error %d", c.view, sample.Show(c.from), sample.Show(c.with), bad)
		}
	}
	long := api.View{Where: make(api.Expr, 101)}
	expectEvalError(t, long, sample.Bag("(1)"), nil, api.ErrArg)
	expectEval(t, long, nil, nil, nil, nil)
}

// P12.1: from or with that is not valid, wherever its fault is, whatever the other one is, and whether there is a With or not.
func TestEvalInvalid(t *testing.T) {
	good, many := sample.Bag("(1, 1) (2, 2)"), bagsOf(101)
	for i, b := range sample.Invalid() {
		for _, s := range []string{"from t pick 0", "from t join u on 0 = 0 pick 0", "from t where [and] pick 0", "from t join u on 0 = 0 where [c0 'a' <] pick", "from t where [false] pick 7", "from t pick group count, sum 0", "from t join t on 9 = 9 pick 0 group"} {
			v := parsed(s)
			for _, other := range []api.Bag{nil, good, many, bag.Neg(good), sample.Bag("(1)*1000000000"), b} {
				expectEvalError(t, v, b, other, api.ErrArg)
				expectEvalError(t, v, other, b, api.ErrArg)
			}
		}
		if t.Failed() {
			t.Fatal("bag", i)
		}
	}
}

// P12.2: the first of that name, whatever its rows are and whatever is behind it.
func TestFind(t *testing.T) {
	rows := []api.Bag{nil, sample.Bag("(1)*2 (2)*-3"), sample.Bag("('a', null)"), sample.Bag("()")}
	for _, first := range rows {
		for _, second := range rows {
			for _, third := range rows {
				l := []api.Source{{Name: "t", Rows: first}, {Name: "u", Rows: second}, {Name: "t", Rows: third}}
				expectFind(t, l, "t", first)
				expectFind(t, l, "u", second)
				expectFind(t, l[1:], "t", third)
				expectFind(t, l[1:2], "t", nil)
				for _, name := range []string{"", "x", "T", "tt", "t ", "\x00", "tu", strings.Repeat("t", 100000)} {
					expectFind(t, l, name, nil)
				}
			}
		}
	}
	for _, name := range []string{"", "t"} {
		expectFind(t, nil, name, nil)
		expectFind(t, []api.Source{}, name, nil)
	}
	// A name may be empty, or any bytes.
	for _, name := range []string{"", "\xff", "table", "t\x00", strings.Repeat("t", 100000)} {
		l := []api.Source{{Name: "t", Rows: rows[1]}, {Name: name, Rows: rows[2]}, {Name: name, Rows: rows[3]}}
		expectFind(t, l, name, rows[2])
		expectFind(t, l, "t", rows[1])
		expectFind(t, l, name+"x", nil)
	}
	// Rows that are not valid are found as well.
	for _, b := range sample.Invalid() {
		expectFind(t, []api.Source{{Name: "t"}, {Name: "u", Rows: b}}, "u", b)
	}
}

// P12.2: catalogs and what they hold, written out by hand.
func TestAll(t *testing.T) {
	for _, c := range []struct{ defs, base, want []string }{
		// Nothing is defined.
		{nil, nil, nil},
		{nil, []string{"t", "(1)", "", "(2)"}, nil},
		// Tables: those that base does not name, and names that are no tables'.
		{[]string{"table t(k int)"}, nil, []string{"t", ""}},
		{[]string{"table t(k int)"}, []string{"t", "(1) (2)"}, []string{"t", "(1) (2)"}},
		{[]string{"table t(k int)"}, []string{"u", "(1)", "", "(2)", "T", "(3)", "t ", "(4)"}, []string{"t", ""}},
		{[]string{"table t(k int)", "table u(k int)"}, []string{"u", "(1)"}, []string{"t", "", "u", "(1)"}},
		{[]string{"table t(k int)", "table u(k int)"}, []string{"u", "(1)", "x", "(3)", "t", "(2)"}, []string{"t", "(2)", "u", "(1)"}},
		// The first of a name counts, also if it has no rows.
		{[]string{"table t(k int)"}, []string{"t", "(1)", "t", "(2)"}, []string{"t", "(1)"}},
		{[]string{"table t(k int)", "view v from t pick 0"}, []string{"t", "", "t", "(2)"}, []string{"t", "", "v", ""}},
		{[]string{"table t(k int)", "view v from t pick 0"}, []string{"x", "", "t", "(1)*2", "t", "(2)", "t", "(1)"}, []string{"t", "(1)*2", "v", "(1)*2"}},
		// A table's rows are as base has them, even if no table could hold them.
		{[]string{"table t(k int)"}, []string{"t", "()*-7 (null) (1)*1000000000 ('a', 'b')*2"}, []string{"t", "()*-7 (null) (1)*1000000000 ('a', 'b')*2"}},
		{[]string{"table t(k int) check [c0 1 <]", "table u(k int, r int unique ref t restrict)"}, []string{"t", "(1)", "u", "(7, 8) (8, 8)"}, []string{"t", "(1)", "u", "(7, 8) (8, 8)"}},
		// What base calls a view is nothing to it, nor to what is of it.
		{[]string{"table t(k int)", "view v from t pick 0", "view w from v pick 0"}, []string{"v", "(5)", "w", "(6)", "t", "(1)"}, []string{"t", "(1)", "v", "(1)", "w", "(1)"}},
		{[]string{"table t(k int)", "view v from t pick 0", "view w from v join t on 0 = 0 pick 1"}, []string{"v", "(5)", "", "(1)", "w", "(6)"}, []string{"t", "", "v", "", "w", ""}},
		// A source without a name is not what a view without a With is joined with.
		{[]string{"table t(k int)", "view v from t pick 0"}, []string{"", "(1)*9", "t", "(1)"}, []string{"t", "(1)", "v", "(1)"}},
		// A view with a condition; one that nothing meets.
		{[]string{"table t(k int, a int null)", "view v from t where [c1 6 <] pick 1", "view w from t where [c1 4 <] pick 0"}, []string{"t", "(1, 5) (2, 6) (3, null) (4, 5)"}, []string{"t", "(1, 5) (2, 6) (3, null) (4, 5)", "v", "(5)*2", "w", ""}},
		// Two views of one table, and one of both.
		{[]string{"table t(k int, a int)", "view v from t pick 1", "view w from t pick 1, 0", "view x from v join w on 0 = 0 pick 0, 2"}, []string{"t", "(1, 5) (2, 5)"}, []string{"t", "(1, 5) (2, 5)", "v", "(5)*2", "w", "(5, 1) (5, 2)", "x", "(5, 1)*2 (5, 2)*2"}},
		// A table and a view joined, in both orders, and each with itself.
		{[]string{"table t(k int, a int)", "view v from t where [c0 2 <] pick 1", "view w from t join v on 1 = 0 pick 0, 2", "view x from v join t on 0 = 1 pick 1"}, []string{"t", "(1, 5) (2, 5) (3, 6)"}, []string{"t", "(1, 5) (2, 5) (3, 6)", "v", "(5)", "w", "(1, 5) (2, 5)", "x", "(1) (2)"}},
		{[]string{"table t(k int, a int)", "view v from t join t on 0 = 1 pick 3, 0, 2", "view w from v join v on 1 = 2 pick 0, 3"}, []string{"t", "(1, 2) (2, 1) (3, 3)"}, []string{"t", "(1, 2) (2, 1) (3, 3)", "v", "(1, 1, 2) (2, 2, 1) (3, 3, 3)", "w", "(1, 2) (2, 1) (3, 3)"}},
		// Joined by a column each: the first of On is From's.
		{[]string{"table t(k int, a int)", "table u(k int, b int, c text)", "view v from t join u on 0 = 1 pick 1, 4"}, []string{"t", "(1, 8) (2, 9)", "u", "(8, 2, 'x') (9, 1, 'y') (1, 7, 'z')"}, []string{"t", "(1, 8) (2, 9)", "u", "(1, 7, 'z') (8, 2, 'x') (9, 1, 'y')", "v", "(8, 'y') (9, 'x')"}},
		// Groups, of groups; a count is 1 for each group.
		{[]string{"table t(k int, a int)", "view v from t pick 1 group count", "view w from v pick 1 group count, sum 0", "view x from w pick group count"}, []string{"t", "(1, 5) (2, 5) (3, 6) (4, 7)"}, []string{"t", "(1, 5) (2, 5) (3, 6) (4, 7)", "v", "(5, 2) (6, 1) (7, 1)", "w", "(1, 2, 13) (2, 1, 5)", "x", "(2)"}},
	} {
		expectAll(t, sample.Catalog(c.defs...), sample.Sources(c.base...), sample.Sources(c.want...))
	}
}

// P12.2: tables and views in turns, up to a view of a view of a view.
func TestTurns(t *testing.T) {
	expectAll(t, sample.Catalog(turns()...), turnsBase(), sample.Sources(
		"t", "(0, null) (1, 0)*2 (1, 1) (2, 0)",
		"v", "(0, 1)*2 (0, 2) (1, 1)",
		"u", "(1, 0)*2 (1, 1) (2, 1) (3, null)",
		"w", "(1, 1, 0)*4 (1, 1, 1) (1, 2, 1) (2, 1, 0)*2",
		"s", "(1, 0)*2",
		"g", "(0, 6, 8, 1) (1, 2, 2, 2)",
		"h", "(0, 8, 1)*2 (1, 2, 1)",
		"z", "('a') ('b')*2",
		"i", "(1, 3, 0)",
		"o", "(null) (0)*2 (1)",
		"p", "(1, 0, 1)*2 (1, 1, 1) (2, 1, 2) (3, null, 3)",
		"q", "(5, 'b')",
		"r", "(1, 3, 1)*3",
	))
}

// P12.2: as many definitions as there may be, each of the one ahead of it.
func TestChain(t *testing.T) {
	c := sample.Catalog("table t(k int, a int null)")
	want := sample.Sources("t", "(1, 9) (2, null) (30, 4)*2")
	base := sample.CopySources(want)
	for i := range 19 {
		from, name := want[i].Name, "v"+strings.Repeat("v", i)
		// Columns change places, and what a condition leaves out stays out.
		s := "view " + name + " from " + from + " pick 1, 0"
		want = append(want, api.Source{Name: name, Rows: sample.Bag([]string{"(9, 1) (null, 2) (4, 30)*2", "(1, 9) (2, null) (30, 4)*2"}[i%2])})
		if i >= 9 {
			s = "view " + name + " from " + from + " where [c0 c1 < not] pick 1, 0"
			want[i+1].Rows = sample.Bag([]string{"(1, 9)", ""}[min(i-9, 1)])
		}
		c = append(c, sample.Def(s))
		expectAll(t, c, base, want)
		if t.Failed() {
			t.FailNow()
		}
	}
	if len(c) != 20 {
		t.Fatal(len(c))
	}
}

// P12.2: tables may have more rows than views may be of.
func TestManyRows(t *testing.T) {
	c := sample.Catalog("table t(k int)", "table u(k int)", "view v from u pick 0")
	many := bagsOf(100001)
	expectAll(t, c, []api.Source{{Name: "t", Rows: many}, {Name: "u", Rows: many[:3]}}, []api.Source{{Name: "t", Rows: many}, {Name: "u", Rows: many[:3]}, {Name: "v", Rows: sample.Bag("(1)*3")}})
	expectAllError(t, c, []api.Source{{Name: "t"}, {Name: "u", Rows: many}}, api.ErrQueryMany)
}

// failures holds tables and views, one of each, by names x: the rows of the table with which the view has an error, and rows with which it has none.
func failures() []struct {
	table, view, rows, well string
	want                    api.Errno
} {
	return []struct {
		table, view, rows, well string
		want                    api.Errno
	}{
		{"table ax(k int)", "view a from ax join ax on 0 = 0 pick 0", "(1)*1000000000", "(1)", api.ErrQueryMany},
		{"table bx(k int)", "view b from bx where [c0 5 <] pick 0", "(1) ('a')", "(1) (7)", api.ErrExprType},
		{"table cx(k int)", "view c from cx where [c0 1 + 5 <] pick 0", "(1) (" + most + ")", "(1) (7)", api.ErrExprOverflow},
		{"table dx(k int)", "view d from dx pick 0 group count", "(1)*-1", "(1)", api.ErrArg},
		{"table ex(k int)", "view e from ex pick group sum 0", "(1) (" + most + ")", "(0) (" + most + ")", api.ErrQuerySum},
	}
}

// P12.2: errors of some of the views, in the first, a middle and the last one: the error of the first of them, and nothing else.
func TestAllErrors(t *testing.T) {
	l := failures()
	orders := [][]int{{0, 1, 2, 3, 4}, {4, 3, 2, 1, 0}, {1, 3, 0, 4, 2}, {2, 0, 4, 1, 3}, {3, 4, 1, 2, 0}}
	for _, order := range orders {
		for faulty := range 1 << len(l) {
			var apart, inTurns []string
			var base []api.Source
			want := api.OK
			for _, at := range order {
				f, rows := l[at], l[at].well
				if faulty>>at&1 > 0 {
					rows = f.rows
					if want == api.OK {
						want = f.want
					}
				}
				inTurns = append(inTurns, f.table, f.view)
				apart = append(append([]string{f.table}, apart...), f.view)
				base = append(base, sample.Sources(sample.Def(f.table).Table.Name, rows)...)
			}
			// What comes of a view that fails, or of another one, is not asked.
			inTurns = append(inTurns, "view f from "+sample.Def(inTurns[1]).View.Name+" pick 0", "view g from ax pick 0")
			for _, defs := range [][]string{inTurns, apart} {
				got, bad := All(sample.Catalog(defs...), base)
				if bad != want || want != api.OK && len(got) != 0 || want == api.OK && len(got) != len(defs) {
					t.Fatalf("%s of %s: %s, error %d; want error %d", strings.Join(defs, "; "), sample.ShowSources(base), sample.ShowSources(got), bad, want)
				}
			}
		}
	}
	// A view of a view fails for itself.
	c := sample.Catalog("table t(k int)", "view v from t pick 0", "view w from v where [c0 1 + 5 <] pick 0", "view x from w pick group sum 0")
	expectAllError(t, c, sample.Sources("t", "("+most+")*2"), api.ErrExprOverflow)
	expectAllError(t, c, sample.Sources("t", "("+least+")*2"), api.ErrQuerySum)
	expectAllError(t, c, sample.Sources("t", "(1)*-1"), api.ErrArg)
}

// faultyCatalogs returns catalogs that are not valid, by one definition each, in the first, a middle and the last place.
func faultyCatalogs() []api.Catalog {
	good := sample.Catalog(turns()...)
	var l []api.Catalog
	for _, at := range []int{0, 5, len(good) - 1} {
		v := parsed("from t pick 0")
		v.Pick[0] = -1
		for _, d := range []api.Def{{}, {Kind: api.DefKinds, Table: sample.Def("table x(k int)").Table}, {Kind: api.DefView, View: v}, sample.Def("table x(k int null)"), sample.Def("table x(k int, k int)"), sample.Def("table x(k int) check [1]"), sample.Def("table x(k int, r int ref y cascade)"), sample.Def("view x from x pick 0"), sample.Def("view x from y pick 0"), sample.Def("view x from t where [c0] pick 0"), sample.Def("view x from t pick")} {
			l = append(l, slices.Concat(good[:at], api.Catalog{d}, good[at:]), slices.Concat(good[:at], api.Catalog{d}, good[at+1:]))
		}
		// A name twice.
		l = append(l, slices.Concat(good[:at], good[at:at+1], good[at:]))
	}
	var many []string
	for i := range 21 {
		many = append(many, "table t"+strings.Repeat("t", i)+"(k int)")
	}
	turned := slices.Clone(good)
	slices.Reverse(turned)
	return append(l, turned, good[1:], slices.Concat(good[:3], good[4:]), slices.Concat(good, good), make(api.Catalog, 1), make(api.Catalog, 30), sample.Catalog(many...))
}

// P12.2: a catalog that is not valid, wherever its fault is, whatever base is.
func TestInvalidCatalog(t *testing.T) {
	bad := turnsBase()
	bad[1].Rows = sample.Bag("(1)")[:1:1]
	bad[1].Rows[0].N = 0
	for i, c := range faultyCatalogs() {
		if schema.May(c) {
			t.Fatalf("catalog %d is valid", i)
		}
		// Together with rows that are not valid, and with rows of which a view would have an error.
		for _, base := range [][]api.Source{nil, turnsBase(), bad, sample.Sources("t", "(1)*-1", "z", "('a')*1000000000")} {
			expectAllError(t, c, base, api.ErrArg)
		}
		if t.Failed() {
			t.Fatalf("catalog %d", i)
		}
	}
}

// P12.2: rows that are not valid, in the first, a middle and the last element of base, whatever its name is.
func TestInvalidRows(t *testing.T) {
	catalogs := []api.Catalog{nil, sample.Catalog("table t(k int)"), sample.Catalog(turns()...), sample.Catalog("table z(k int)", "view v from z where [c0 5 <] pick group sum 0")}
	for i, b := range sample.Invalid() {
		for _, name := range []string{"t", "u", "z", "v", "q", "x", "", "\xff"} {
			for at := range 4 {
				base := slices.Insert(turnsBase(), at, api.Source{Name: name, Rows: b})
				for _, c := range catalogs {
					expectAllError(t, c, base, api.ErrArg)
				}
			}
			for _, c := range catalogs {
				expectAllError(t, c, []api.Source{{Name: name, Rows: b}}, api.ErrArg)
				// A view's error is not told then, wherever the element is.
				expectAllError(t, c, append(sample.Sources("z", "('a') ("+most+")*2", "t", "(1)*100001"), api.Source{Name: name, Rows: b}), api.ErrArg)
			}
		}
		if t.Failed() {
			t.Fatal("bag", i)
		}
	}
}
