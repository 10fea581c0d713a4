package query

import (
	"math"
	"slices"
	"testing"

	"levee/api"
	"levee/bag"
	"levee/sample"
)

// P10.1: the chapter's example.
func TestExample(t *testing.T) {
	expectProduct(t, on(0, 0), sample.Bag("(1)*2"), sample.Bag("(1)*3"), sample.Bag("(1, 1)*6"), api.OK)
}

// P10.1: without With, from is the answer, whatever On and with are.
func TestProductOfOne(t *testing.T) {
	for _, s := range []string{"", "()", "()*-1", "(1)", "(1)*-3 (1, 2)*1000000000 (null)", "(null, null) (true) (false)*2 ('a')"} {
		for _, with := range []string{"", "(1)", "()*-2 (1, 1)"} {
			for _, at := range [][2]int{{}, {0, 1}, {-1, math.MaxInt}} {
				expectProduct(t, api.View{On: at}, sample.Bag(s), sample.Bag(with), sample.Bag(s), api.OK)
			}
		}
	}
	// Neither many rows nor long ones are too many without a join.
	expectProduct(t, api.View{}, pairsOf(1, 10001), nil, pairsOf(1, 10001), api.OK)
	expectProduct(t, api.View{}, pairsOf(1, 200), pairsOf(1, 200), pairsOf(1, 200), api.OK)
	long := api.Bag{{Row: equal(sample.Num(1), 40), N: sample.Billion}}
	expectProduct(t, api.View{}, long, long, long, api.OK)
}

// P10.1: joins written out by hand.
func TestJoins(t *testing.T) {
	for _, c := range []struct {
		left, right      int
		from, with, want string
	}{
		{0, 0, "", "", ""},
		{0, 0, "(1)", "", ""},
		{0, 0, "", "(1)", ""},
		{0, 0, "(1)", "(1)", "(1, 1)"},
		{0, 0, "(1)", "(2)", ""},
		{0, 0, "(1) (2) (3)", "(4) (5) (6)", ""},
		{0, 0, "(1) (2) (3)", "(0) (2) (4)", "(2, 2)"},
		// Several rows of one side meet several of the other.
		{0, 0, "(1, 5) (1, 6) (2, 5)", "(1, 7) (1, 8) (3, 7)", "(1, 5, 1, 7) (1, 5, 1, 8) (1, 6, 1, 7) (1, 6, 1, 8)"},
		{0, 1, "(1, 5) (1, 6) (2, 5) (2, 9)", "(7, 1) (8, 2) (9, 2)", "(1, 5, 7, 1) (1, 6, 7, 1) (2, 5, 8, 2) (2, 5, 9, 2) (2, 9, 8, 2) (2, 9, 9, 2)"},
		{1, 0, "(1, 5) (2, 5) (3, 6)", "(5) (5, 5) (6, 'x')", "(1, 5, 5) (1, 5, 5, 5) (2, 5, 5) (2, 5, 5, 5) (3, 6, 6, 'x')"},
		{2, 1, "(1, 2, 3) (1, 2, 4)", "(9, 3, 8) (9, 4)", "(1, 2, 3, 9, 3, 8) (1, 2, 4, 9, 4)"},
		// The rows that are joined need not rise as those of from do.
		{0, 0, "(1) (1, 0)", "(1) (1, 1)", "(1, 0, 1) (1, 0, 1, 1) (1, 1) (1, 1, 1)"},
		// Values of different kinds are never equal, even if they look alike.
		{0, 0, "(0) (1) (false) (true) ('') ('0') ('1') ('null') (null)", "(0) (1) (false) (true) ('') ('0') ('1') ('null') (null)", "(0, 0) (1, 1) (false, false) (true, true) ('', '') ('0', '0') ('1', '1') ('null', 'null')"},
		{0, 0, "(1)", "(true) ('1') ('(1)')", ""},
		{0, 0, "(0)", "(false) ('') (null)", ""},
		{0, 0, "(true)", "(1) ('true')", ""},
		{0, 0, "('a') ('A') ('a ') ('aa')", "('a')", "('a', 'a')"},
		{0, 0, "(-9223372036854775808) (9223372036854775807)", "(-9223372036854775808) (9223372036854775807)", "(-9223372036854775808, -9223372036854775808) (9223372036854775807, 9223372036854775807)"},
		// Null in the column of On equals nothing, not even null.
		{0, 0, "(null)", "(null)", ""},
		{0, 0, "(null) (1)", "(null) (1)", "(1, 1)"},
		{0, 0, "(null)", "(1)", ""},
		{0, 0, "(1)", "(null)", ""},
		{1, 1, "(1, null) (2, 5)", "(3, null) (4, 5)", "(2, 5, 4, 5)"},
		// Null in other columns is no hindrance.
		{0, 1, "(1, null)", "(null, 1)", "(1, null, null, 1)"},
		// A column that does not exist is null, on either side.
		{1, 0, "(1)", "(1)", ""},
		{0, 1, "(1)", "(1)", ""},
		{1, 1, "(1)", "(1)", ""},
		{0, 0, "()", "()", ""},
		{0, 0, "()", "(null)", ""},
		{-1, 0, "(1)", "(1)", ""},
		{0, -1, "(1)", "(1)", ""},
		{-1, -1, "(1)", "(1)", ""},
		{math.MaxInt, 0, "(1)", "(1)", ""},
		{0, math.MaxInt, "(1)", "(1)", ""},
		{math.MinInt, math.MinInt, "(1)", "(1)", ""},
		{math.MaxInt, math.MaxInt, "(null)", "(null)", ""},
		// Rows of one bag differ in length: those that have the column are joined.
		{1, 1, "() (1) (1, 2) (1, 2, 3)", "() (2) (2, 2) (2, 2, 2)", "(1, 2, 2, 2) (1, 2, 2, 2, 2) (1, 2, 3, 2, 2) (1, 2, 3, 2, 2, 2)"},
		// Counts of both signs on both sides.
		{0, 0, "(1)*-2", "(1)*3", "(1, 1)*-6"},
		{0, 0, "(1)*2", "(1)*-3", "(1, 1)*-6"},
		{0, 0, "(1)*-2", "(1)*-3", "(1, 1)*6"},
		{0, 0, "(1)*-1", "(1)*-1", "(1, 1)"},
		{0, 0, "(1, 1)*-2 (1, 2)*5 (2, 2)*7", "(1, 3)*-3 (1, 4)*11 (2, 5)*-1", "(1, 1, 1, 3)*6 (1, 1, 1, 4)*-22 (1, 2, 1, 3)*-15 (1, 2, 1, 4)*55 (2, 2, 2, 5)*-7"},
		// Different pairs that join to the same row add up.
		{0, 0, "(1) (1, 1)", "(1) (1, 1)", "(1, 1) (1, 1, 1)*2 (1, 1, 1, 1)"},
		{0, 0, "(1)*2 (1, 1)*3", "(1)*5 (1, 1)*7", "(1, 1)*10 (1, 1, 1)*29 (1, 1, 1, 1)*21"},
		{0, 0, "(1)*2 (1, 1)*-3", "(1)*-5 (1, 1)*7", "(1, 1)*-10 (1, 1, 1)*29 (1, 1, 1, 1)*-21"},
		// Or cancel each other.
		{0, 0, "(1) (1, 1)", "(1)*-1 (1, 1)", "(1, 1)*-1 (1, 1, 1, 1)"},
		{0, 0, "(1)*3 (1, 1)*-2", "(1)*6 (1, 1)*4", "(1, 1)*18 (1, 1, 1, 1)*-8"},
	} {
		expectProduct(t, on(c.left, c.right), sample.Bag(c.from), sample.Bag(c.with), sample.Bag(c.want), api.OK)
	}
}

// P10.1: how many pairs there may be.
func TestPairs(t *testing.T) {
	hundred := func(n int) api.Bag { return pairsOf(1, n) }
	for _, c := range []struct {
		left, right int
		many        bool
	}{{100, 100, false}, {1, 10000, false}, {10000, 1, false}, {99, 101, false}, {73, 136, false}, {73, 137, true}, {137, 73, true}, {1, 10001, true}, {10001, 1, true}, {101, 100, true}, {100, 101, true}, {5000, 5000, true}} {
		got, bad := Product(on(0, 0), hundred(c.left), hundred(c.right))
		if c.many && (bad != api.ErrQueryMany || len(got) != 0) || !c.many && (bad != api.OK || len(got) != c.left*c.right || !bag.May(got)) {
			t.Errorf("%d and %d rows: %d rows, error %d", c.left, c.right, len(got), bad)
		}
	}
	// Rows that have no partners make no pairs.
	got, bad := Product(on(0, 0), slices.Concat(pairsOf(0, 5000), hundred(100), pairsOf(2, 5000)), slices.Concat(hundred(100), pairsOf(3, 5000)))
	if bad != api.OK || len(got) != 10000 {
		t.Errorf("rows without partners: %d rows, error %d", len(got), bad)
	}
	// Pairs of different values count together.
	from, with := slices.Concat(hundred(50), pairsOf(2, 50)), slices.Concat(hundred(100), pairsOf(2, 100))
	if got, bad := Product(on(0, 0), from, with); bad != api.OK || len(got) != 10000 {
		t.Errorf("two values: %d rows, error %d", len(got), bad)
	}
	expectMany(t, on(0, 0), slices.Concat(from, pairsOf(3, 1)), slices.Concat(with, pairsOf(3, 1)))
	expectMany(t, on(0, 0), slices.Concat(pairsOf(0, 1), from), slices.Concat(pairsOf(0, 1), with))
}

// P10.1: what counts is pairs, neither their counts nor the rows that they make.
func TestPairsNotRows(t *testing.T) {
	expectProduct(t, on(0, 0), sample.Bag("(1)*20000"), sample.Bag("(1)*20000"), sample.Bag("(1, 1)*400000000"), api.OK)
	// Rows of ones and twos that begin with a one: a joined row is made by many pairs.
	var begin []api.Bag
	rows := []api.Row{{sample.Num(1)}}
	for i := 0; i < len(rows) && len(rows) < 127; i++ {
		for _, n := range []int{1, 2} {
			rows = append(rows, append(slices.Clone(rows[i]), sample.Num(n)))
		}
	}
	for _, r := range rows {
		begin = append(begin, one(r, 1))
	}
	left := bag.Plus(begin...)
	if len(left) != 127 {
		t.Fatal(len(left), "rows")
	}
	got, bad := Product(on(0, 0), left[:100], left[:100])
	sum := 0
	for _, c := range got {
		sum += c.N
	}
	if bad != api.OK || sum != 10000 || len(got) >= 9000 {
		t.Errorf("10000 pairs: %d rows, %d in all, error %d", len(got), sum, bad)
	}
	expectMany(t, on(0, 0), left[:101], left[:100])
	expectMany(t, on(0, 0), left[:100], left[:101])
	// Though half of them cancel the others.
	signed := sample.Copy(left[:101])
	for i := range signed {
		signed[i].N = i%2*2 - 1
	}
	expectMany(t, on(0, 0), signed, left[:100])
}

// P10.1: how long a joined row may be.
func TestLength(t *testing.T) {
	for _, c := range []struct{ left, right int }{{1, 39}, {39, 1}, {20, 20}, {2, 38}, {1, 1}, {19, 20}} {
		from, with := one(equal(sample.Num(1), c.left), 1), one(equal(sample.Num(1), c.right), 2)
		expectProduct(t, on(0, 0), from, with, one(equal(sample.Num(1), c.left+c.right), 2), api.OK)
	}
	for _, c := range []struct{ left, right int }{{1, 40}, {40, 1}, {21, 20}, {20, 21}, {40, 40}, {2, 39}} {
		from, with := one(equal(sample.Num(1), c.left), 1), one(equal(sample.Num(1), c.right), 2)
		expectMany(t, on(0, 0), from, with)
		// One such row among others, wherever it stands.
		expectMany(t, on(0, 0), bag.Plus(from, sample.Bag("(1) (2) (0)")), bag.Plus(with, sample.Bag("(0) (1) (3)")))
		expectMany(t, on(0, 0), bag.Plus(from, sample.Bag("(3) (2)")), bag.Plus(with, sample.Bag("(3) (4)")))
		// Without a partner, no row is too long.
		expectProduct(t, on(0, 0), bag.Plus(from, sample.Bag("(3) (2)")), bag.Plus(one(equal(sample.Num(7), c.right), 2), sample.Bag("(3) (4)")), sample.Bag("(3, 3)"), api.OK)
	}
	// Two rows that are too long are no less so where they would cancel each other.
	from := bag.Plus(one(equal(sample.Num(1), 20), 1), one(equal(sample.Num(1), 21), -1))
	expectMany(t, on(0, 0), from, bag.Plus(one(equal(sample.Num(1), 20), 1), one(equal(sample.Num(1), 21), 1)))
}

// P10.1: the count of a pair.
func TestPairCounts(t *testing.T) {
	for _, c := range []struct{ left, right int }{{sample.Billion, 1}, {1, sample.Billion}, {32000, 31250}, {31250, 32000}, {sample.Billion / 2, 2}, {31622, 31622}, {999999999, 1}} {
		for _, s := range [][2]int{{1, 1}, {1, -1}, {-1, 1}, {-1, -1}} {
			from, with := one(equal(sample.Num(1), 1), c.left*s[0]), one(equal(sample.Num(1), 1), c.right*s[1])
			expectProduct(t, on(0, 0), from, with, one(equal(sample.Num(1), 2), c.left*c.right*s[0]*s[1]), api.OK)
		}
	}
	for _, c := range []struct{ left, right int }{{sample.Billion, 2}, {2, sample.Billion}, {52579, 19019}, {19019, 52579}, {500000001, 2}, {31623, 31623}, {sample.Billion, sample.Billion}, {1 << 29, 1 << 29}, {999999999, 2}} {
		for _, s := range [][2]int{{1, 1}, {1, -1}, {-1, 1}, {-1, -1}} {
			from, with := one(equal(sample.Num(1), 1), c.left*s[0]), one(equal(sample.Num(1), 1), c.right*s[1])
			expectMany(t, on(0, 0), from, with)
			// One such pair among others, wherever it stands.
			expectMany(t, on(0, 0), bag.Plus(from, sample.Bag("(0) (2)")), bag.Plus(with, sample.Bag("(0) (2)")))
			expectMany(t, on(0, 0), bag.Plus(from, sample.Bag("(0) (2)")), bag.Plus(with, sample.Bag("(3)")))
			// Two rows that have such counts, and no partners.
			expectProduct(t, on(0, 0), from, bag.Plus(one(equal(sample.Num(2), 1), c.right)), nil, api.OK)
		}
	}
}

// P10.1: the count of a joined row that several pairs make: rows of nothing but ones, of which the row of n ones is made by each left row with the right row of as many ones as are left.
func TestRowCounts(t *testing.T) {
	const half = sample.Billion / 2
	for _, c := range []struct{ left, right []int }{
		{[]int{1, 1}, []int{1, 1}},
		{[]int{half, half}, []int{1, 1}},
		{[]int{half, half + 1}, []int{1, 1}},
		{[]int{half + 1, half}, []int{1, 1}},
		{[]int{1, 1}, []int{half, half}},
		{[]int{1, 1}, []int{half, half + 1}},
		{[]int{-half, -half}, []int{1, 1}},
		{[]int{-half, -half - 1}, []int{1, 1}},
		{[]int{half, -half - 1}, []int{-1, 1}},
		{[]int{sample.Billion - 1, 1}, []int{1, 1}},
		{[]int{sample.Billion, 1}, []int{1, 1}},
		{[]int{sample.Billion, -1}, []int{1, 1}},
		{[]int{sample.Billion, sample.Billion}, []int{1, 1}},
		// Counts that cancel each other, as great ones as there are.
		{[]int{1, 1}, []int{1, -1}},
		{[]int{1, -1}, []int{1, 1}},
		{[]int{2, 3}, []int{4, -6}},
		{[]int{sample.Billion, sample.Billion}, []int{1, -1}},
		{[]int{sample.Billion, -sample.Billion}, []int{1, 1}},
		{[]int{sample.Billion, -sample.Billion}, []int{1, -1}},
		{[]int{1, 1}, []int{sample.Billion, -sample.Billion}},
		{[]int{1, 0, 1}, []int{1, 0, -1}},
		// All but the shortest and the longest row.
		{[]int{1, 1, 1, 1, 1}, []int{1, -1}},
		{[]int{1, -1}, []int{1, 1, 1, 1, 1}},
		// The whole sum alone counts, in whatever order the pairs come: three of them make the row of four ones.
		{[]int{half, sample.Billion, -half}, []int{1, 1, 1}},
		{[]int{half, half, half}, []int{1, 1, -1}},
		{[]int{half, half, half}, []int{-1, 1, 1}},
		{[]int{half, -half, half}, []int{1, 1, 1}},
		{[]int{half, half, half}, []int{1, 1, 1}},
		{[]int{half, half, 0}, []int{1, 1, 1}},
		{[]int{half, half, -half}, []int{1, 1, 1}},
		{[]int{0, sample.Billion, -sample.Billion, sample.Billion}, []int{1, 1, 1}},
		{[]int{sample.Billion, -sample.Billion, sample.Billion}, []int{1, 1, 1}},
		{[]int{-sample.Billion, sample.Billion, -sample.Billion}, []int{1, 1, 1}},
		{[]int{sample.Billion, -sample.Billion, sample.Billion, 1}, []int{1, 1, 1, 1}},
		{[]int{sample.Billion, -sample.Billion, sample.Billion + 1}, []int{1, 1, 1}},
		// A pair whose count is too great is not mended by one that takes it back.
		{[]int{1, 2}, []int{sample.Billion, -sample.Billion}},
		{[]int{2, 2}, []int{sample.Billion, -sample.Billion}},
	} {
		expectOnes(t, c.left, c.right)
		slices.Reverse(c.left)
		slices.Reverse(c.right)
		expectOnes(t, c.left, c.right)
	}
}

// expectOnes holds the join of rows of 1, 2, .. ones, which are there as often as left and right say, against the counts of the rows that it has.
func expectOnes(t *testing.T, left, right []int) {
	t.Helper()
	sums := make([]int, len(left)+len(right)+1)
	many := false
	for i, a := range left {
		for j, b := range right {
			sums[i+j+2] += a * b
			many = many || a*b > sample.Billion || a*b < -sample.Billion
		}
	}
	if slices.Max(sums) > sample.Billion || slices.Min(sums) < -sample.Billion {
		many = true
	}
	from, with := onesOf(append([]int{0}, left...)), onesOf(append([]int{0}, right...))
	if !bag.May(from) || !bag.May(with) {
		expectProduct(t, on(0, 0), from, with, nil, api.OK)
		return
	}
	if many {
		expectMany(t, on(0, 0), from, with)
		return
	}
	expectProduct(t, on(0, 0), from, with, onesOf(sums), api.OK)
}

// P10.2: conditions written out by hand.
func TestWhere(t *testing.T) {
	all := "() (null)*2 (1)*-3 (2, null)*1000000000 (2, 7)*-1000000000 (3) (true) (false) ('a')"
	numbers := "(1)*-3 (2, null)*1000000000 (2, 7)*-1000000000 (3)*5 (9)"
	for _, c := range []struct{ where, b, want string }{
		{"", "", ""},
		{"c0", "", ""},
		{"true", "", ""},
		// Without a condition, all rows are the answer.
		{"", all, all},
		{"true", all, all},
		{"false", all, ""},
		{"null", all, ""},
		// A result that is not the true value is no error.
		{"1", all, ""},
		{"'true'", all, ""},
		{"c0", "(null) (false) (true)*-7 (1) ('true')", "(true)*-7"},
		{"c0 null?", numbers, ""},
		{"c0 null?", "(null)*4 (1) ('a')", "(null)*4"},
		{"c0 null? not", "(null)*4 (1) ('a')", "(1) ('a')"},
		{"c0 2 =", numbers, "(2, null)*1000000000 (2, 7)*-1000000000"},
		{"c0 3 <", numbers, "(1)*-3 (2, null)*1000000000 (2, 7)*-1000000000"},
		{"1 c0 <", numbers, "(2, null)*1000000000 (2, 7)*-1000000000 (3)*5 (9)"},
		{"c0 1 + c0 1 - * 8 =", numbers, "(3)*5"},
		{"c1 7 =", "(2, null) (2, 7)*-2 (3, 8)", "(2, 7)*-2"},
		{"c1 7 = not", "(2, null) (2, 7)*-2 (3, 8)", "(3, 8)"},
		{"c1 7 = c1 null? or", "(2, null) (2, 7)*-2 (3, 8)", "(2, null) (2, 7)*-2"},
		{"c0 c1 =", "(1, 1) (1, 2) (2, 2)*3 (null, null)", "(1, 1) (2, 2)*3"},
		{"c0 c1 <", "('a', 'b') ('b', 'a') ('b', 'b')", "('a', 'b')"},
		// Only what is asked of rows that are there can be an error.
		{"c0 9223372036854775807 + 0 <", "(-1)*-1 (0)*2", ""},
		{"c2 5 =", "(1, 2, 5) (2, 2, 5, 9)*-4", "(1, 2, 5) (2, 2, 5, 9)*-4"},
	} {
		expectWhere(t, where(c.where), sample.Bag(c.b), sample.Bag(c.want), api.OK)
	}
}

// P10.2: the error of the first row that has one, wherever it stands, and whatever the rows ahead of it and behind it answer.
func TestWhereErrors(t *testing.T) {
	for _, c := range []struct {
		where, b string
		want     api.Errno
	}{
		// A type error in the first, a middle and the last row.
		{"c0 5 <", "(true) (1) (2)", api.ErrExprType},
		{"c0 2 = c1 1 = and", "(1, 1) (2) (3, 1)", api.ErrExprType},
		{"c0 5 <", "(1) (2) ('a')", api.ErrExprType},
		{"c0 not", "(null) (true) (1)", api.ErrExprType},
		{"c1", "() (null, true) (false, true)", api.ErrExprType},
		{"c0", "()", api.ErrExprType},
		{"c0 5 <", "(true)*-1", api.ErrExprType},
		// An overflow in the first, a middle and the last row.
		{"c0 1 - 0 <", "(-9223372036854775808) (0) (1)", api.ErrExprOverflow},
		{"c0 c1 + 0 <", "(0, 9223372036854775807) (1, 9223372036854775807) (2, 0)", api.ErrExprOverflow},
		{"c0 1 + 0 <", "(0) (1) (9223372036854775807)", api.ErrExprOverflow},
		{"c0 c0 * 0 <", "(3037000499) (3037000500)*-2", api.ErrExprOverflow},
		// Two errors in different rows: the first row's.
		{"c0 1 - 0 <", "(-9223372036854775808) (0) ('a')", api.ErrExprOverflow},
		{"c0 1 - 0 <", "(true) (-9223372036854775808) (0)", api.ErrExprType},
		{"c0 1 - 0 <", "(1) (9223372036854775807) ('a')", api.ErrExprType},
		{"c0 1 + 0 <", "(1) (9223372036854775807) ('a')", api.ErrExprOverflow},
		{"c0 1 + 0 <", "(1) (9223372036854775807) (true)", api.ErrExprType},
		// Conditions that no row satisfies the types of.
		{"1 2", "(1)", api.ErrExprType},
		{"and", "(1)", api.ErrExprType},
		{"true true", "(1)", api.ErrExprType},
		{"true not not 1 not", "(1) (2)", api.ErrExprType},
	} {
		expectWhere(t, where(c.where), sample.Bag(c.b), nil, c.want)
	}
	for i, e := range []api.Expr{
		{{Op: api.EOps}}, {{Op: -1}}, {{Op: api.ECol, N: -1}}, {{Op: api.ECol, N: math.MaxInt}}, {{Op: api.ECol, N: math.MinInt}},
		{{Op: api.EConst, V: api.Value{Kind: 9}}}, {{Op: api.EConst, V: api.Value{Kind: api.Bool, N: 2}}},
	} {
		expectWhere(t, api.View{Where: e}, sample.Bag("(true)"), nil, api.ErrExprType)
		expectWhere(t, api.View{Where: e}, nil, nil, api.OK)
		if t.Failed() {
			t.Fatal("condition", i)
		}
	}
	// A hundred steps are not too many; one more is an error, but only if there is a row.
	true100 := append(api.Expr{{Op: api.EConst, V: api.Value{Kind: api.Bool}}}, slices.Repeat(api.Expr{{Op: api.ENot}}, 99)...)
	expectWhere(t, api.View{Where: true100}, sample.Bag("(1)*-2"), sample.Bag("(1)*-2"), api.OK)
	expectWhere(t, api.View{Where: append(true100, true100[1:3]...)}, sample.Bag("(1)"), nil, api.ErrArg)
	expectWhere(t, api.View{Where: append(true100, true100[1:3]...)}, nil, nil, api.OK)
}

// P10.2: Where looks at the condition and the rows alone, and asks neither for joins nor for picks.
func TestWhereAlone(t *testing.T) {
	v := where("c0 2 <")
	v.With, v.On, v.Pick, v.Group, v.Aggs = "w", [2]int{7, -7}, []int{-1, 99}, true, []api.Agg{{Fn: -1, Col: -1}}
	expectWhere(t, v, sample.Bag("(1)*2 (1, 5) (2)"), sample.Bag("(1)*2 (1, 5)"), api.OK)
	v.Pick = make([]int, 100)
	expectWhere(t, v, sample.Bag("(1)*2 (1, 5) (2)"), sample.Bag("(1)*2 (1, 5)"), api.OK)
	expectWhere(t, where(""), pairsOf(1, 20000), pairsOf(1, 20000), api.OK)
}

// P10.2: picks written out by hand.
func TestPick(t *testing.T) {
	for _, c := range []struct {
		pick    []int
		b, want string
	}{
		{[]int{0}, "", ""},
		{nil, "", ""},
		{[]int{0}, "(1, 2)", "(1)"},
		{[]int{1}, "(1, 2)", "(2)"},
		{[]int{1, 0}, "(1, 2)*-3", "(2, 1)*-3"},
		{[]int{0, 1, 2}, "(1, null, 'a')*7", "(1, null, 'a')*7"},
		// One column twice and more.
		{[]int{1, 1}, "(1, 2)", "(2, 2)"},
		{[]int{0, 1, 0, 0}, "(1, 2)*5 (3, null)", "(1, 2, 1, 1)*5 (3, null, 3, 3)"},
		// No picks: every row becomes the one of no values.
		{nil, "(1)", "()"},
		{[]int{}, "() (null) (1)*5 (1, 2)*-3", "()*4"},
		{nil, "(1) (2)*-1", ""},
		// Picks that make rows equal.
		{[]int{0}, "(1, 2) (1, 3)", "(1)*2"},
		{[]int{0}, "(1) (1, 2)*3 (1, 3)*5 (2, 1)*7", "(1)*9 (2)*7"},
		{[]int{1}, "(1, 5)*2 (2, 6)*3 (3, 5)*-4 (4, 6)*10 (5, 7)", "(5)*-2 (6)*13 (7)"},
		{[]int{1, 1}, "(1, null) (2, null)", "(null, null)*2"},
		// Rows that are equal then, and cancel each other.
		{[]int{0}, "(1, 2) (1, 3)*-1", ""},
		{[]int{0}, "(1, 2)*2 (1, 3)*-1 (1, 4)*-1 (2, 2)", "(2)"},
		{[]int{0}, "(1, 2)*1000000000 (1, 3)*-1000000000", ""},
		// Values alike of different kinds stay apart.
		{[]int{1}, "(1, 0) (2, false) (3, '0') (4, null) (5, '')", "(null) (false) (0) ('') ('0')"},
		// The rows that are picked rise, whatever order they were in.
		{[]int{1}, "(1, 9) (2, 10) (3, 'a') (4, -1) (5, null)", "(null) (-1) (9) (10) ('a')"},
		// Rows that lack a column that is picked are left out.
		{[]int{1}, "() (1) (1, 2) (2)*3 (2, null)*4", "(null)*4 (2)"},
		{[]int{0, 2}, "(1, 2) (3, 4)", ""},
		{[]int{2, 0}, "(1, 2) (3, 4, 5)*-6", "(5, 3)*-6"},
		{[]int{-1}, "(1) (1, 2)", ""},
		{[]int{0, -1, 0}, "(1) (1, 2)", ""},
		{[]int{math.MinInt}, "() (1)", ""},
		{[]int{math.MaxInt}, "() (1)", ""},
		{[]int{0, math.MaxInt}, "(1)", ""},
		{[]int{0}, "()*9", ""},
	} {
		expectPick(t, pick(c.pick...), sample.Bag(c.b), sample.Bag(c.want))
	}
}

// P10.2: how many picks there may be.
func TestPicks(t *testing.T) {
	b := sample.Bag("(1)*2 (3, 4)*-5")
	expectPick(t, pick(make([]int, 40)...), b, api.Bag{{Row: equal(sample.Num(1), 40), N: 2}, {Row: equal(sample.Num(3), 40), N: -5}})
	expectPick(t, pick(slices.Repeat([]int{1}, 40)...), b, api.Bag{{Row: equal(sample.Num(4), 40), N: -5}})
	for _, n := range []int{41, 42, 80, 100000} {
		expectPick(t, pick(make([]int, n)...), b, nil)
		expectPick(t, pick(make([]int, n)...), sample.Bag("()"), nil)
	}
	long := api.Bag{{Row: equal(sample.Num(1), 40), N: 2}}
	all := make([]int, 40)
	for i := range all {
		all[i] = 39 - i
	}
	expectPick(t, pick(all...), long, long)
	expectPick(t, pick(append(all, 0)...), long, nil)
	expectPick(t, pick(append(all[:39], 40)...), long, nil)
	expectPick(t, pick(39), long, sample.Bag("(1)*2"))
}

// P10.2: sums of counts in Pick.
func TestPickSums(t *testing.T) {
	for _, c := range []struct{ b, want string }{
		{"(1, 1)*1000000000", "(1)*1000000000"},
		{"(1, 1)*-1000000000 (2, 1)*1000000000", "(1)*-1000000000 (2)*1000000000"},
		{"(1, 1)*999999999 (1, 2)", "(1)*1000000000"},
		{"(1, 1)*500000000 (1, 2)*500000000", "(1)*1000000000"},
		{"(1, 1)*-500000000 (1, 2)*-500000000", "(1)*-1000000000"},
		{"(1, 1)*1000000000 (1, 2)", ""},
		{"(1, 1)*500000000 (1, 2)*500000001", ""},
		{"(1, 1)*-500000000 (1, 2)*-500000001", ""},
		{"(1, 1)*1000000000 (1, 2)*1000000000", ""},
		// One sum that is too great leaves nothing of the others.
		{"(0) (1, 1)*1000000000 (1, 2) (2)", ""},
		{"(0) (1, 1)*-1000000000 (1, 2)*-1 (2)", ""},
		// Only the whole sum counts.
		{"(1, 1)*1000000000 (1, 2)*1000000000 (1, 3)*-1000000000", "(1)*1000000000"},
		{"(1, 1)*1000000000 (1, 2) (1, 3)*-1", "(1)*1000000000"},
		{"(1, 1)*1000000000 (1, 2)*1000000000 (1, 3)*-1000000000 (1, 4)", ""},
		{"(1, 1)*-1000000000 (1, 2)*-1000000000 (1, 3)*1000000000 (1, 4)*1000000000", ""},
		{"(1, 1)*-1000000000 (1, 2)*-1000000000 (1, 3)*1000000000", "(1)*-1000000000"},
		// A row that is left out has no count.
		{"() (1)*1000000000", "(1)*1000000000"},
	} {
		expectPick(t, pick(0), sample.Bag(c.b), sample.Bag(c.want))
	}
	expectPick(t, pick(1), sample.Bag("(1)*1000000000 (2)*1000000000 (3, 1)*1000000000"), sample.Bag("(1)*1000000000"))
	// Many rows that become one.
	expectPick(t, pick(0), pairsOf(1, 20000), sample.Bag("(1)*20000"))
}

// P10.2: Pick looks at the picks and the rows alone.
func TestPickAlone(t *testing.T) {
	v := api.View{With: "w", On: [2]int{7, -7}, Where: api.Expr{{Op: -1}}, Pick: []int{1}, Group: true, Aggs: []api.Agg{{Fn: -1, Col: -1}}}
	expectPick(t, v, sample.Bag("(1, 5) (2, 5)*3"), sample.Bag("(5)*4"))
}

// Section Promises: a bag that is not valid, as each argument, leaves nothing, and is no error; not even where there would be one.
func TestInvalid(t *testing.T) {
	good := sample.Bag("(1, 1) (2, 2) (3, 3)")
	greats := []api.Bag{nil, good, sample.Bag("(1)*1000000000 (2)*1000000000 (3)*1000000000"), pairsOf(1, 10001)}
	for i, b := range sample.Invalid() {
		if bag.May(b) {
			t.Fatalf("bag %d is valid: %s", i, sample.Show(b))
		}
		for _, great := range greats {
			expectProduct(t, on(0, 0), b, great, nil, api.OK)
			expectProduct(t, on(0, 0), great, b, nil, api.OK)
			expectProduct(t, api.View{}, b, great, nil, api.OK)
			expectProduct(t, api.View{}, great, b, nil, api.OK)
		}
		expectProduct(t, on(0, 0), b, b, nil, api.OK)
		for _, s := range []string{"", "true", "c0 null? not", "c0 5 <", "c9", "and"} {
			expectWhere(t, where(s), b, nil, api.OK)
		}
		for _, l := range [][]int{nil, {0}, {0, 1}, {1}, {9}, make([]int, 41)} {
			expectPick(t, pick(l...), b, nil)
		}
		if t.Failed() {
			t.Fatal("bag", i)
		}
	}
}
