package group

import (
	"math"
	"slices"
	"testing"

	"levee/api"
	"levee/bag"
	"levee/query"
	"levee/sample"
)

// P11.2: the chapter's example.
func TestExample(t *testing.T) {
	expectRows(t, view("0 group count, sum 1"), sample.Bag("(1, 5) (1, 7) (2, null)"), sample.Bag("(1, 2, 12) (2, 1, null)"), api.OK)
}

// P11.1: each function of columns written out by hand.
func TestAggs(t *testing.T) {
	for _, c := range []struct {
		col                    int
		b                      string
		count, sum, least, top string
	}{
		// No rows.
		{0, "", "0", "null", "null", "null"},
		{-1, "", "0", "null", "null", "null"},
		{0, "(5)", "1", "5", "5", "5"},
		{0, "(0)", "1", "0", "0", "0"},
		{0, "(-5)", "1", "-5", "-5", "-5"},
		{0, "(-5) (3) (9)", "3", "7", "-5", "9"},
		{1, "(1, 9) (2, -4) (3, 5)", "3", "10", "-4", "9"},
		{1, "(1, 5) (2, -4) (3, 9)", "3", "10", "-4", "9"},
		{1, "(1, -4) (2, 9) (3, 5)", "3", "10", "-4", "9"},
		{2, "(1, 2, 3) (1, 2, 4)", "2", "7", "3", "4"},
		// Numbers are ordered as numbers.
		{0, "(9) (10) (100)", "3", "119", "9", "100"},
		{0, "(-9) (-10) (-100)", "3", "-119", "-100", "-9"},
		{0, "(-1) (1)", "2", "0", "-1", "1"},
		// A row counts as often as it is there.
		{0, "(5)*3", "3", "15", "5", "5"},
		{0, "(-5)*3 (7)*2 (null)*4", "9", "-1", "-5", "7"},
		{0, "(0)*7", "7", "0", "0", "0"},
		{1, "(1, 5)*2 (2, 5)*3 (3, 6)*4", "9", "49", "5", "6"},
		{0, "(1000000007)*100000", "100000", "100000000700000", "1000000007", "1000000007"},
		// Null is a row, but neither a number nor a value.
		{0, "(null)", "1", "null", "null", "null"},
		{0, "(null)*5", "5", "null", "null", "null"},
		{1, "(1, null) (2, 7) (3, null)*2", "4", "7", "7", "7"},
		{1, "(1, null) (2, null)", "2", "null", "null", "null"},
		{1, "(1, null) (2, -3)", "2", "-3", "-3", "-3"},
		{1, "(1, -3) (2, null)", "2", "-3", "-3", "-3"},
		// Truth values and texts are no numbers, but values; all kinds are ordered.
		{0, "(true)", "1", "null", "true", "true"},
		{0, "(false)*2 (true)", "3", "null", "false", "true"},
		{0, "('a')", "1", "null", "'a'", "'a'"},
		{0, "('') ('a') ('B')", "3", "null", "''", "'a'"},
		{0, "('5') ('7')", "2", "null", "'5'", "'7'"},
		{0, "('10') ('9')", "2", "null", "'10'", "'9'"},
		{0, "('a') ('aa') ('b')", "3", "null", "'a'", "'b'"},
		{0, "(true) (5)*2", "3", "10", "true", "5"},
		{0, "(5)*2 ('a')", "3", "10", "5", "'a'"},
		{0, "(null) (false) (true) (-1) (8) ('') ('z')", "7", "7", "false", "'z'"},
		{0, "(null)*2 (false)*3 (true)*4 (-1)*5 (8)*6 ('')*7 ('z')*8", "35", "43", "false", "'z'"},
		{1, "(1, 'z') (2, true) (3, 4) (4, null) (5, false) (6, -9) (7, 'a')", "7", "-5", "false", "'z'"},
		{0, "(null) (true) ('x')", "3", "null", "true", "'x'"},
		{0, "(true)*9 ('1')*9", "18", "null", "true", "'1'"},
		{0, "(-9223372036854775808) (9223372036854775807) (true)", "3", "-1", "true", "9223372036854775807"},
		{0, "(-9223372036854775808) (9223372036854775807) ('')", "3", "-1", "-9223372036854775808", "''"},
		// A column that does not exist is null.
		{1, "(1) (2)", "2", "null", "null", "null"},
		{-1, "(1) (2)", "2", "null", "null", "null"},
		{40, "(1) (2)", "2", "null", "null", "null"},
		{math.MaxInt, "(1) (2)", "2", "null", "null", "null"},
		{math.MinInt, "(1) (2)", "2", "null", "null", "null"},
		{1 << 32, "(1) (2)", "2", "null", "null", "null"},
		{0, "()*3", "3", "null", "null", "null"},
		// Some rows have the column, some do not.
		{1, "()*4 (1) (2, 6)*2 (3, 8, 1)", "8", "20", "6", "8"},
		{2, "(1) (2, 6) (3, 8, 1)", "3", "1", "1", "1"},
	} {
		for fn, want := range []string{api.FnCount: c.count, api.FnSum: c.sum, api.FnMin: c.least, api.FnMax: c.top} {
			expectAgg(t, of(fn, c.col), sample.Bag(c.b), sample.Bag("(" + want + ")")[0].Row[0], api.OK)
		}
		for _, fn := range allFns()[api.Fns:] {
			expectAgg(t, of(fn, c.col), sample.Bag(c.b), api.Value{}, api.OK)
		}
		// A group of all rows comes to the same.
		if b := sample.Bag(c.b); len(b) > 0 {
			v := grouped(nil, of(api.FnCount, c.col), of(api.FnSum, c.col), of(api.FnMin, c.col), of(api.FnMax, c.col), of(api.Fns, c.col))
			expectRows(t, v, b, sample.Bag("("+c.count+", "+c.sum+", "+c.least+", "+c.top+", null)"), api.OK)
		}
	}
}

// P11.1: the texts of bytes that are no letters are ordered by their bytes, and handed on as they are.
func TestTexts(t *testing.T) {
	b := bag.Of([]api.Row{{sample.Text("\x00")}, {sample.Text("")}, {sample.Text("\xff\xfe")}, {sample.Text("é")}, {sample.Text("z")}})
	expectAgg(t, of(api.FnMin, 0), b[1:], sample.Text("\x00"), api.OK)
	expectAgg(t, of(api.FnMin, 0), b, sample.Text(""), api.OK)
	expectAgg(t, of(api.FnMax, 0), b, sample.Text("\xff\xfe"), api.OK)
	expectAgg(t, of(api.FnMax, 0), b[:4], sample.Text("é"), api.OK)
}

// P11.1: sums at the bounds of 64 bits. What the sum comes to on the way does not matter.
func TestSums(t *testing.T) {
	const most, least = math.MaxInt, math.MinInt
	for _, c := range []struct {
		b    api.Bag
		want int
		fits bool
	}{
		// At the bounds, and one beyond.
		{ones(most, 1), most, true},
		{ones(least, 1), least, true},
		{ones(0, 1, most, 1), most, true},
		{ones(1, 1, most-1, 1), most, true},
		{ones(1, 1, most, 1), 0, false},
		{ones(2, 1, most-1, 1), 0, false},
		{ones(least, 1, 0, 1), least, true},
		{ones(least+1, 1, -1, 1), least, true},
		{ones(least, 1, -1, 1), 0, false},
		{ones(least+1, 1, -2, 1), 0, false},
		{ones(least, 1, 1, 1), least + 1, true},
		{ones(-1, 1, most, 1), most - 1, true},
		// Halves of the bounds, twice.
		{ones(1<<62-1, 2), most - 1, true},
		{ones(1, 1, 1<<62-1, 2), most, true},
		{ones(1<<62, 2), 0, false},
		{ones(-1, 1, 1<<62, 2), most, true},
		{ones(-2, 1, 1<<62, 2), most - 1, true},
		{ones(-1<<62, 2), least, true},
		{ones(-1<<62, 2, -1, 1), 0, false},
		{ones(-1<<62, 2, 1, 1), least + 1, true},
		{ones(-1<<62-1, 2), 0, false},
		{ones(-1<<62-1, 2, 1, 1), 0, false},
		{ones(-1<<62-1, 2, 2, 1), least, true},
		// A number, and how often it is there.
		{ones(most, 2), 0, false},
		{ones(least, 2), 0, false},
		{ones(most, 3), 0, false},
		{ones(least, 3), 0, false},
		{ones(most, 100000), 0, false},
		{ones(least, 100000), 0, false},
		{ones(92233720368547, 100000), 9223372036854700000, true},
		{ones(92233720368548, 100000), 0, false},
		{ones(-92233720368547, 100000), -9223372036854700000, true},
		{ones(-92233720368548, 100000), 0, false},
		{ones(75807, 1, 92233720368548, 99999), 9223279803134507259, true},
		{ones(5807, 1, 922337203685477, 10000), most, true},
		{ones(5808, 1, 922337203685477, 10000), 0, false},
		{ones(-922337203685477, 10000, -5808, 1), least, true},
		{ones(-922337203685477, 10000, -5809, 1), 0, false},
		{ones(184467440737095516, 50), 9223372036854775800, true},
		{ones(7, 1, 184467440737095516, 50), most, true},
		{ones(8, 1, 184467440737095516, 50), 0, false},
		{ones(-184467440737095516, 50, -8, 1), least, true},
		{ones(-184467440737095516, 50, -9, 1), 0, false},
		// Numbers whose product with their count wraps round to a small one.
		{ones(1<<62, 4), 0, false},
		{ones(-1<<62, 4), 0, false},
		{ones(1<<60, 16), 0, false},
		{ones(1<<60+1, 16), 0, false},
		{ones(1<<48, 65536), 0, false},
		{ones(1<<48+1, 65536), 0, false},
		{ones(-1<<48, 65536), 0, false},
		{ones(-1<<48, 32768), least, true},
		{ones(1<<48, 32768), 0, false},
		{ones(least, 65536), 0, false},
		{ones(most, 65536), 0, false},
		{ones(least, 4, 1, 1), 0, false},
		// The whole sum fits, though a part of it does not, on either side.
		{ones(least, 1, -1, 1, 1, 1), least, true},
		{ones(least, 1, -1, 1, 1, 2), least + 1, true},
		{ones(least, 1, -1, 1, most, 1), -2, true},
		{ones(least, 2, most, 2), -2, true},
		{ones(least, 3, most, 3), -3, true},
		{ones(least, 2, most, 1), 0, false},
		{ones(least, 1, most, 2), most - 1, true},
		{ones(least, 1, 0, 1, 1, 1, most, 2), most, true},
		{ones(least, 1, 0, 1, 2, 1, most, 2), 0, false},
		{ones(least, 50000, most, 50000), -50000, true},
		{ones(least, 49999, 1, 1, 49999, 1, most, 49999), 1, true},
		{ones(least, 49999, 0, 1, most, 50000), most - 49999, true},
		{ones(least, 50000, 0, 1, most, 49999), 0, false},
		{ones(least+1, 50000, most, 50000), 0, true},
		{ones(least+1, 50000, 0, 1, most, 49999), least + 1, true},
	} {
		if !bag.May(c.b) {
			t.Fatalf("%s is no bag", sample.Show(c.b))
		}
		want, wantBad := sample.Num(c.want), api.OK
		if !c.fits {
			want, wantBad = api.Value{}, api.ErrQuerySum
		}
		expectAgg(t, of(api.FnSum, 0), c.b, want, wantBad)
		// The other functions do not ask for it.
		expectAgg(t, of(api.FnMin, 0), c.b, c.b[0].Row[0], api.OK)
		expectAgg(t, of(api.FnMax, 0), c.b, c.b[len(c.b)-1].Row[0], api.OK)
		// The order of the rows, and what else is in the column, is nothing to the sum.
		var turned []api.Bag
		for i, x := range c.b {
			turned = append(turned, sample.One(api.Row{sample.Num(-i), x.Row[0]}, x.N))
		}
		expectAgg(t, of(api.FnSum, 1), bag.Plus(turned...), want, wantBad)
		turned = append(turned, sample.Bag("() (true) (1, null)*3 (1, false)*2 (1, true) (1, 'a')*4"))
		if more := bag.Plus(turned...); sample.Total(more) <= 100000 {
			expectAgg(t, of(api.FnSum, 1), more, want, wantBad)
		}
	}
}

// Section Promises: at most 100000 rows, each as often as it is there.
func TestMany(t *testing.T) {
	for _, c := range []struct {
		b    api.Bag
		many bool
	}{
		{ones(1, 99999), false}, {ones(1, 100000), false}, {ones(1, 100001), true}, {ones(1, sample.Billion), true},
		{ones(1, 1, 2, 99999), false}, {ones(1, 1, 2, 100000), true}, {ones(1, 100000, 2, 1), true}, {ones(1, 99999, 2, 1), false},
		{ones(1, 50000, 2, 50000), false}, {ones(1, 50001, 2, 50000), true}, {ones(1, 50000, 2, 50001), true},
		{ones(1, 33333, 2, 33333, 3, 33334), false}, {ones(1, 33333, 2, 33334, 3, 33334), true},
		{ones(1, sample.Billion, 2, sample.Billion, 3, sample.Billion), true},
		{rowsOf(100000, 1), false}, {rowsOf(100001, 1), true}, {rowsOf(50000, 2), false}, {slices.Concat(rowsOf(50000, 2), ones(60000, 1)), true},
		{rowsOf(1000, sample.Billion), true}, {rowsOf(65536, 65536), true}, {rowsOf(4, 1<<29), true}, {rowsOf(32, 1<<27), true},
	} {
		if c.many {
			expectRefused(t, c.b, api.ErrQueryMany)
			continue
		}
		expectAgg(t, of(api.FnCount, 0), c.b, sample.Num(sample.Total(c.b)), api.OK)
		expectRows(t, view("group count"), c.b, ones(sample.Total(c.b), 1), api.OK)
		expectRows(t, view("0"), c.b, c.b, api.OK)
		var each api.Bag
		for _, x := range c.b {
			each = append(each, api.Count{Row: api.Row{x.Row[0], sample.Num(x.N)}, N: 1})
		}
		expectRows(t, view("0 group count"), c.b, each, api.OK)
	}
	// Rows that are not picked count as well.
	expectRows(t, view("1 group count"), sample.Bag("(1)*99999 (1, 5)"), sample.Bag("(5, 1)"), api.OK)
	expectRows(t, view("1 group count"), sample.Bag("(1)*99999 (1, 5)*2"), nil, api.ErrQueryMany)
	expectRows(t, view("1"), sample.Bag("(1)*99999 (1, 5)*2"), nil, api.ErrQueryMany)
	expectRows(t, view("2 group count"), sample.Bag("(1)*99999 (1, 5)*2"), nil, api.ErrQueryMany)
}

// P11.2: without Group, what is picked is the answer, with its counts, whatever the aggregates are.
func TestNoGroups(t *testing.T) {
	for _, c := range []struct{ pick, b, want string }{
		{"", "", ""},
		{"0", "", ""},
		{"", "(1) (2)*3", "()*4"},
		{"0", "(1, 5)*2 (1, 6)*3 (2, 5)", "(1)*5 (2)"},
		{"1", "(1, 5)*2 (1, 6)*3 (2, 5)", "(5)*3 (6)*3"},
		{"1, 0, 1", "(1, 5)*2 (2, null)", "(5, 1, 5)*2 (null, 2, null)"},
		{"1", "() (1)*7", ""},
		{"1", "() (1)*7 (1, 5)*2", "(5)*2"},
		{"7", "(1)", ""},
	} {
		v := view(c.pick)
		for _, aggs := range [][]api.Agg{nil, {{}}, {of(api.FnSum, 0), of(9, 9)}, make([]api.Agg, 41)} {
			v.Aggs = aggs
			expectRows(t, v, sample.Bag(c.b), sample.Bag(c.want), api.OK)
		}
	}
	// Sums that are too great are asked of groups alone.
	v := api.View{Pick: []int{0}, Aggs: []api.Agg{of(api.FnSum, 0)}}
	expectRows(t, v, ones(math.MaxInt, 2), ones(math.MaxInt, 2), api.OK)
}

// P11.2: groups written out by hand.
func TestGroups(t *testing.T) {
	sales := "('a', 'x', 5)*2 ('a', 'x', 7) ('a', 'y', null) ('b', 'x', -1)*3 ('b', 'y', 0) (null, 'x', 4)"
	for _, c := range []struct{ view, b, want string }{
		// No rows, no groups.
		{"group", "", ""},
		{"group count", "", ""},
		{"0 group", "", ""},
		{"0 group count, sum 0, min 0, max 0", "", ""},
		// No picks: one group of all rows, which picks nothing.
		{"group", "(1)", "()"},
		{"group", "(1)*5 (2) (null)", "()"},
		{"group count", "(1)*5 (2) (null)", "(7)"},
		{"group count", "()", "(1)"},
		{"group count", "()*6", "(6)"},
		{"group count, sum 0, min 0, max 0", "(1)*5 (2) (null)", "(7, 7, 1, 2)"},
		{"group count, sum 2, min 2, max 2", sales, "(9, 18, -1, 7)"},
		// No aggregates: each row that is picked, once.
		{"0 group", "(1, 5)*2 (1, 6)*3 (2, 5)", "(1) (2)"},
		{"1 group", "(1, 5)*2 (1, 6)*3 (2, 5)", "(5) (6)"},
		{"0, 1 group", "(1, 5)*2 (1, 6)*3 (2, 5)", "(1, 5) (1, 6) (2, 5)"},
		{"0 group", "(7)", "(7)"},
		// Different rows of which one picks the same.
		{"0 group count", sales, "(null, 1) ('a', 4) ('b', 4)"},
		{"1 group count", sales, "('x', 7) ('y', 2)"},
		{"0, 1 group count", sales, "(null, 'x', 1) ('a', 'x', 3) ('a', 'y', 1) ('b', 'x', 3) ('b', 'y', 1)"},
		{"1, 0 group count", sales, "('x', null, 1) ('x', 'a', 3) ('x', 'b', 3) ('y', 'a', 1) ('y', 'b', 1)"},
		{"0 group sum 2", sales, "(null, 4) ('a', 17) ('b', -3)"},
		{"1 group sum 2", sales, "('x', 18) ('y', 0)"},
		{"0, 1 group sum 2", sales, "(null, 'x', 4) ('a', 'x', 17) ('a', 'y', null) ('b', 'x', -3) ('b', 'y', 0)"},
		{"0 group min 2, max 2", sales, "(null, 4, 4) ('a', 5, 7) ('b', -1, 0)"},
		{"0, 1 group max 2, min 2", sales, "(null, 'x', 4, 4) ('a', 'x', 7, 5) ('a', 'y', null, null) ('b', 'x', -1, -1) ('b', 'y', 0, 0)"},
		{"0 group min 1, max 1", sales, "(null, 'x', 'x') ('a', 'x', 'y') ('b', 'x', 'y')"},
		{"2 group count", sales, "(null, 1) (-1, 3) (0, 1) (4, 1) (5, 2) (7, 1)"},
		// All functions, several of each, in their order.
		{"0 group sum 2, count, max 2, count, min 1, sum 2, max 1, min 2, sum 0", sales, "(null, 4, 1, 4, 1, 'x', 4, 'x', 4, null) ('a', 17, 4, 7, 4, 'x', 17, 'y', 5, null) ('b', -3, 4, 0, 4, 'x', -3, 'y', -1, null)"},
		{"1 group max 1, max 0, max 2, min 0, min 2", sales, "('x', 'x', 'b', 7, 'a', -1) ('y', 'y', 'b', 0, 'a', 0)"},
		// A column that is grouped by is folded too.
		{"0 group sum 0, min 0, max 0", "(3)*4 (5)", "(3, 12, 3, 3) (5, 5, 5, 5)"},
		// One column, picked twice and more.
		{"0, 0 group count", "(1, 5)*2 (1, 6) (2, 7)", "(1, 1, 3) (2, 2, 1)"},
		{"1, 0, 1 group sum 0", "(1, 5)*2 (1, 6) (2, 5)", "(5, 1, 5, 2) (5, 2, 5, 2) (6, 1, 6, 1)"},
		// Rows that lack a column that is picked are in no group.
		{"1 group count", "() (1)*7", ""},
		{"1 group count", "() (1)*7 (1, 5)*2 (2, 5) (3, 6, 7)*4", "(5, 3) (6, 4)"},
		{"0 group count", "()*9 (1) (1, 5)*2", "(1, 3)"},
		{"7 group count, sum 0", "(1) (2)", ""},
		{"0, 7 group", "(1) (2)", ""},
		{"group count", "()*9 (1) (1, 5)*2", "(12)"},
		// Those that lack a column that is folded are.
		{"0 group count, sum 1, min 1, max 2", "(1)*7 (1, 5)*2 (2) (3, 6, 7)*4", "(1, 9, 10, 5, null) (2, 1, null, null, null) (3, 4, 24, 6, 7)"},
		// Values that look alike are different groups, and null is one.
		{"0 group count", "(0) (1)*2 (false)*3 (true)*4 ('')*5 ('0')*6 ('1')*7 ('null')*8 (null)*9 ('true')*10", "(null, 9) (false, 3) (true, 4) (0, 1) (1, 2) ('', 5) ('0', 6) ('1', 7) ('null', 8) ('true', 10)"},
		{"0, 1 group count", "('a', 'b')*2 ('a'', ''b', 'c')*3 ('a, b', 'c')*4 ('a', 'b'', ''c')*5 ('', '')*6 (''', ''', '')*7 ('', ''', ''')*8", "('', '', 6) ('', ''', ''', 8) ('a', 'b', 2) ('a', 'b'', ''c', 5) ('a'', ''b', 'c', 3) ('a, b', 'c', 4) (''', ''', '', 7)"},
		{"0, 1 group count", "(1, null) (null, 1)*2 (null, null)*3 (1, 1)*4", "(null, null, 3) (null, 1, 2) (1, null, 1) (1, 1, 4)"},
		{"0, 1 group count", "(1, 11) (11, 1)*2", "(1, 11, 1) (11, 1, 2)"},
		// Groups rise, whatever the order of the rows that make them is.
		{"1 group count", "(1, 9) (2, 'a') (3, -4) (4, null) (5, 9) (6, true) (7, 10)", "(null, 1) (true, 1) (-4, 1) (9, 2) (10, 1) ('a', 1)"},
	} {
		expectRows(t, view(c.view), sample.Bag(c.b), sample.Bag(c.want), api.OK)
	}
}

// P11.2: picks of columns that no row has.
func TestNoSuchPicks(t *testing.T) {
	for _, at := range []int{-1, 2, 40, math.MinInt, math.MaxInt, 1 << 32, -1 << 32} {
		for _, cols := range [][]int{{at}, {at, 0}, {0, at}, {0, at, 1}} {
			for _, aggs := range [][]api.Agg{nil, {{}}, {of(api.FnSum, 0)}, make([]api.Agg, 40)} {
				expectRows(t, grouped(cols, aggs...), sample.Bag("(1, 5) (2, 6)*3"), nil, api.OK)
				expectRows(t, api.View{Pick: cols, Aggs: aggs}, sample.Bag("(1, 5) (2, 6)*3"), nil, api.OK)
			}
		}
	}
}

// P11.2: a function that is none, and columns that do not exist, are null in a group's row.
func TestNoSuchAggs(t *testing.T) {
	for _, fn := range allFns()[api.Fns:] {
		expectRows(t, grouped([]int{0}, of(fn, 0), of(api.FnCount, -7), of(fn, -1)), sample.Bag("(1)*3 (2)"), sample.Bag("(1, null, 3, null) (2, null, 1, null)"), api.OK)
	}
	for _, at := range []int{-1, 2, 40, math.MinInt, math.MaxInt, 1 << 32} {
		v := grouped([]int{0}, of(api.FnSum, at), of(api.FnMin, at), of(api.FnMax, at), of(api.FnCount, at))
		expectRows(t, v, sample.Bag("(1, 5)*3 (2, 6)"), sample.Bag("(1, null, null, null, 3) (2, null, null, null, 1)"), api.OK)
	}
}

// P11.2: how long a group's row may be.
func TestLength(t *testing.T) {
	b := sample.Bag("(1)*2 (2)")
	for _, c := range []struct {
		picks, aggs int
		many        bool
	}{{0, 40, false}, {1, 39, false}, {20, 20, false}, {39, 1, false}, {40, 0, false}, {0, 41, true}, {1, 40, true}, {20, 21, true}, {21, 20, true}, {39, 2, true}, {40, 1, true}, {40, 40, true}, {0, 1000, true}, {5, 100000, true}} {
		v := grouped(make([]int, c.picks), make([]api.Agg, c.aggs)...)
		// Without a group, no row is too long.
		expectRows(t, v, nil, nil, api.OK)
		if c.picks > 0 {
			expectRows(t, v, sample.Bag("()*3"), nil, api.OK)
		}
		if c.many {
			expectRows(t, v, b, nil, api.ErrQueryMany)
			expectRows(t, v, b[:1], nil, api.ErrQueryMany)
			// Nor is one of a view that does not group.
			v.Group = false
			expectRows(t, v, b, query.Pick(v, b), api.OK)
			continue
		}
		var want []api.Bag
		for _, x := range b {
			want = append(want, sample.One(slices.Concat(slices.Repeat(x.Row, c.picks), slices.Repeat(api.Row{sample.Num(x.N)}, c.aggs)), 1))
		}
		if c.picks == 0 {
			want = []api.Bag{sample.One(slices.Repeat(api.Row{sample.Num(3)}, c.aggs), 1)}
		}
		expectRows(t, v, b, bag.Plus(want...), api.OK)
	}
	// More than 40 columns are never picked: there are no groups then, and no row that is too long.
	for _, n := range []int{41, 100, 100000} {
		expectRows(t, grouped(make([]int, n)), b, nil, api.OK)
		expectRows(t, grouped(make([]int, n), make([]api.Agg, n)...), b, nil, api.OK)
	}
	// A row of 40 columns, all of them picked.
	wide := sample.One(slices.Repeat(api.Row{sample.Text("x")}, 40), 3)
	cols := make([]int, 40)
	for i := range cols {
		cols[i] = 39 - i
	}
	expectRows(t, grouped(cols), wide, sample.One(wide[0].Row, 1), api.OK)
	expectRows(t, grouped(cols, of(api.FnMax, 39)), wide, nil, api.ErrQueryMany)
}

// P11.2: an error of one aggregate of one group, whichever it is, is the answer.
func TestErrors(t *testing.T) {
	great := "(9223372036854775807)*2"
	for _, at := range []string{"(1, 9223372036854775807)*2 (2, 5) (3, 6)", "(1, 5) (2, 9223372036854775807)*2 (3, 6)", "(1, 5) (2, 6) (3, 9223372036854775807)*2", "(1, -9223372036854775808)*2 (2, -9223372036854775808)*2 (3, 6)"} {
		for _, s := range []string{"sum 1", "sum 1, count", "count, sum 1", "count, sum 1, max 1", "sum 0, sum 1", "sum 1, sum 0", "sum 1, sum 1"} {
			expectRows(t, view("0 group "+s), sample.Bag(at), nil, api.ErrQuerySum)
			expectRows(t, view("group "+s), sample.Bag(at), nil, api.ErrQuerySum)
		}
	}
	// What is not asked for is no error.
	expectRows(t, view("0 group count, sum 0, max 1"), sample.Bag("(1, 9223372036854775807)*2 (2, 5)"), sample.Bag("(1, 2, 2, 9223372036854775807) (2, 1, 2, 5)"), api.OK)
	// Each of two sums fits, and the sum of both would not.
	expectRows(t, view("0 group sum 1"), sample.Bag("(1, 9223372036854775807) (2, 9223372036854775807)"), sample.Bag("(1, 9223372036854775807) (2, 9223372036854775807)"), api.OK)
	expectRows(t, view("group sum 1"), sample.Bag("(1, 9223372036854775807) (2, 9223372036854775807)"), nil, api.ErrQuerySum)
	// Nor would those of two parts, where the sum of both does.
	expectRows(t, view("0 group sum 1"), sample.Bag("(1, -9223372036854775808)*2 (2, 9223372036854775807)*2"), nil, api.ErrQuerySum)
	expectRows(t, view("group sum 1"), sample.Bag("(1, -9223372036854775808)*2 (2, 9223372036854775807)*2"), sample.Bag("(-2)"), api.OK)
	// A row that is too long comes first.
	v := view("group sum 0")
	v.Aggs = slices.Repeat(v.Aggs, 40)
	expectRows(t, v, sample.Bag(great), nil, api.ErrQuerySum)
	v.Aggs = append(v.Aggs, api.Agg{})
	expectRows(t, v, sample.Bag(great), nil, api.ErrQueryMany)
	// Rows that are not picked are not asked.
	expectRows(t, view("1 group sum 0, count"), sample.Bag(great+" (4, 5)"), sample.Bag("(5, 4, 1)"), api.OK)
}

// Section Promises: a bag that is not valid is refused by both functions, wherever its fault is, and whatever is asked of it.
func TestInvalid(t *testing.T) {
	for i, b := range sample.Invalid() {
		if bag.May(b) {
			t.Fatalf("bag %d is valid: %s", i, sample.Show(b))
		}
		expectRefused(t, b, api.ErrArg)
		// Also where its other rows are too many.
		for at := range min(len(b), 3) {
			great := sample.Copy(b)
			great[at].N = sample.Billion
			if !bag.May(great) {
				expectRefused(t, great, api.ErrArg)
			}
		}
		if t.Failed() {
			t.Fatal("bag", i)
		}
	}
}

// Section Promises: a bag with a negative count is refused by both functions, wherever it is.
func TestNegative(t *testing.T) {
	for at := range 3 {
		for _, n := range []int{-1, -2, -5, -100001, -sample.Billion} {
			for _, rest := range []int{1, 2, 100000, 100001, sample.Billion} {
				b := ones(1, rest, 2, rest, 3, rest)
				b[at].N = n
				expectRefused(t, b, api.ErrArg)
				expectRefused(t, b[at:at+1], api.ErrArg)
				b = sample.Bag("(1, 5) (2, 6) (3, 7)")
				b[at].N = n
				expectRefused(t, b, api.ErrArg)
				// In a row that is not picked.
				b = slices.Concat(sample.Bag("()")[:1:1], b)
				b[0].N, b[at+1].N = n, rest
				expectRefused(t, b, api.ErrArg)
			}
		}
	}
	// Negative counts that leave a sum within bounds are no better than others.
	expectRefused(t, ones(1, 100000, 2, -1, 3, 1), api.ErrArg)
	expectRefused(t, ones(1, -1, 2, 1), api.ErrArg)
	expectRefused(t, bag.Neg(rowsOf(100001, 1)), api.ErrArg)
	expectRefused(t, ones(1, -1, 2, 100002), api.ErrArg)
	expectRefused(t, ones(1, 100002, 2, -1), api.ErrArg)
}
