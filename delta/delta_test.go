package delta

import (
	"math"
	"testing"

	"levee/api"
	"levee/bag"
	"levee/sample"
)

// P13.1: the chapter's example: of t joined with itself, a new row adds its joins with the old rows, theirs with it, and its own with itself.
func TestExample(t *testing.T) {
	old := "(1, 1) (1, 2) (2, 1)"
	expectBoth(t, on(0, 0), change(old, "(1, 3)"), change(old, "(1, 3)"), sample.Bag("(1, 1, 1, 3) (1, 2, 1, 3) (1, 3, 1, 1) (1, 3, 1, 2) (1, 3, 1, 3)"), api.OK)
	expectBoth(t, on(0, 0), change(old, "(3, 3)"), change(old, "(3, 3)"), sample.Bag("(3, 3, 3, 3)"), api.OK)
	expectBoth(t, on(0, 1), change(old, "(2, 2)"), change(old, "(2, 2)"), sample.Bag("(2, 1, 2, 2) (2, 2, 1, 2) (2, 2, 2, 2)"), api.OK)
	// And a row that goes takes all of these away.
	expectBoth(t, on(0, 0), change(old, "(1, 2)*-1"), change(old, "(1, 2)*-1"), sample.Bag("(1, 1, 1, 2)*-1 (1, 2, 1, 1)*-1 (1, 2, 1, 2)*-1"), api.OK)
	expectBoth(t, on(0, 0), change(old, "(1, 1)*-1 (1, 2)*-1 (2, 1)*-1"), change(old, "(1, 1)*-1 (1, 2)*-1 (2, 1)*-1"), sample.Bag("(1, 1, 1, 1)*-1 (1, 1, 1, 2)*-1 (1, 2, 1, 1)*-1 (1, 2, 1, 2)*-1 (2, 1, 2, 1)*-1"), api.OK)
}

// P13.1: changes of joins written out by hand.
func TestChanges(t *testing.T) {
	for _, c := range []struct {
		v          api.View
		from, with Change
		want       string
	}{
		// Rows that come on one side, on the other, on both.
		{on(0, 0), change("(1, 5)", "(1, 6) (2, 7)"), change("(1) (2)", ""), "(1, 6, 1) (2, 7, 2)"},
		{on(0, 0), change("(1, 5) (1, 6) (2, 7)", ""), change("(3)", "(1) (2)"), "(1, 5, 1) (1, 6, 1) (2, 7, 2)"},
		{on(0, 0), change("(1, 5)", "(2, 5)"), change("(1)", "(2)"), "(2, 5, 2)"},
		{on(0, 0), change("(1, 5) (2, 5)", "(1, 6) (2, 6)"), change("(1)", "(2)"), "(1, 6, 1) (2, 5, 2) (2, 6, 2)"},
		{on(0, 0), change("(1)", "(1)"), change("(1)", "(1)"), "(1, 1)*3"},
		{on(1, 0), change("(7, 1)", "(8, 1)"), change("(1, 9)", "(1, 10)"), "(7, 1, 1, 10) (8, 1, 1, 9) (8, 1, 1, 10)"},
		{on(0, 1), change("(1)", "(2)"), change("(1, 2)", "(2, 2) (2, 1)"), "(1, 2, 1) (2, 1, 2) (2, 2, 2)"},
		// Rows that go, of one side, of the other, of both.
		{on(0, 0), change("(1, 5) (2, 5)", "(1, 5)*-1"), change("(1) (2)", ""), "(1, 5, 1)*-1"},
		{on(0, 0), change("(1, 5) (1, 6) (2, 5)", ""), change("(1) (2)", "(1)*-1"), "(1, 5, 1)*-1 (1, 6, 1)*-1"},
		{on(0, 0), change("(1, 5) (2, 5)", "(1, 5)*-1"), change("(1) (2)", "(2)*-1"), "(1, 5, 1)*-1 (2, 5, 2)*-1"},
		{on(0, 0), change("(1)", "(1)*-1"), change("(1)", "(1)*-1"), "(1, 1)*-1"},
		{on(0, 0), change("(1, 5) (1, 6)", "(1, 5)*-1"), change("(1, 7) (1, 8)", "(1, 8)*-1"), "(1, 5, 1, 7)*-1 (1, 5, 1, 8)*-1 (1, 6, 1, 8)*-1"},
		// Counts that go up and down without vanishing.
		{on(0, 0), change("(1)*5", "(1)*2"), change("(1)*3", ""), "(1, 1)*6"},
		{on(0, 0), change("(1)*5", "(1)*-2"), change("(1)*3", ""), "(1, 1)*-6"},
		{on(0, 0), change("(1)*5", ""), change("(1)*3", "(1)*4"), "(1, 1)*20"},
		{on(0, 0), change("(1)*5", ""), change("(1)*3", "(1)*-1"), "(1, 1)*-5"},
		{on(0, 0), change("(1)*5", "(1)*-2"), change("(1)*3", "(1)*-1"), "(1, 1)*-9"},
		{on(0, 0), change("(1)*5", "(1)*2"), change("(1)*3", "(1)*-1"), "(1, 1)*-1"},
		{on(0, 0), change("(1)*5", "(1)*7"), change("(1)*3", "(1)*11"), "(1, 1)*153"},
		{on(0, 0), change("(1)*-5", "(1)*7"), change("(1)*3", "(1)*-11"), "(1, 1)*-1"},
		// A row goes while its partner comes, or comes while that goes.
		{on(0, 0), change("(1, 5)", "(1, 5)*-1"), change("", "(1, 6)"), ""},
		{on(0, 0), change("", "(1, 5)"), change("(1, 6)", "(1, 6)*-1"), ""},
		{on(0, 0), change("(1, 5) (1, 7)", "(1, 5)*-1"), change("(1, 8)", "(1, 6)"), "(1, 5, 1, 8)*-1 (1, 7, 1, 6)"},
		// A row is another one now.
		{on(0, 0), change("(1, 5)", "(1, 5)*-1 (1, 6)"), change("(1, 9) (2, 9)", ""), "(1, 5, 1, 9)*-1 (1, 6, 1, 9)"},
		{on(0, 0), change("(1, 5)", "(1, 5)*-1 (2, 5)"), change("(1, 9) (2, 9)", "(2, 9)*-1 (2, 8)"), "(1, 5, 1, 9)*-1 (2, 5, 2, 8)"},
		// Rows without partners.
		{on(0, 0), change("(1)", "(2)"), change("(3)", "(4)"), ""},
		{on(0, 0), change("(1)", "(2)"), change("(1)", "(3)"), ""},
		// Values that look alike but are not equal.
		{on(0, 0), change("(1) ('x')", "(true) ('1') (0)"), change("(1)", "('true') (false) ('')"), ""},
		{on(0, 0), change("('a')", "('b')"), change("('b')", "('a')"), "('a', 'a') ('b', 'b')"},
		// Different pairs make the same row: in one part, and in several.
		{on(0, 0), change("", "(1) (1, 1)"), change("(1) (1, 1)", ""), "(1, 1) (1, 1, 1)*2 (1, 1, 1, 1)"},
		{on(0, 0), change("(1)", "(1, 1)"), change("(1)", "(1, 1)"), "(1, 1, 1)*2 (1, 1, 1, 1)"},
		{on(0, 0), change("(1)*2", "(1, 1)*-3"), change("(1)*5", "(1, 1)*7"), "(1, 1, 1)*-1 (1, 1, 1, 1)*-21"},
	} {
		expectBoth(t, c.v, c.from, c.with, sample.Bag(c.want), api.OK)
		// The bags of both sides change places, as the joined columns do.
		turned, bad := Product(on(c.v.On[1], c.v.On[0]), c.with, c.from)
		if n := sample.Total(sample.Bag(c.want)); bad != api.OK || sample.Total(turned) != n {
			t.Errorf("turned: %s, error %d; want %d rows", sample.Show(turned), bad, n)
		}
	}
}

// P13.1: the parts may be in order each, while their rows are not.
func TestOrder(t *testing.T) {
	expectBoth(t, on(0, 0), change("(2) (4)", "(1) (3) (5)"), change("(1) (3)", "(2) (4) (5)"), sample.Bag("(1, 1) (2, 2) (3, 3) (4, 4) (5, 5)"), api.OK)
	expectBoth(t, on(0, 0), change("(1) (3)", "(2) (4) (5)"), change("(2) (4)", "(1) (3) (5)"), sample.Bag("(1, 1) (2, 2) (3, 3) (4, 4) (5, 5)"), api.OK)
	expectBoth(t, on(0, 0), change("(4)", "(1) (2) (5)"), change("(1) (5)", "(2) (4)"), sample.Bag("(1, 1) (2, 2) (4, 4) (5, 5)"), api.OK)
}

// P13.1: without With, what comes is what comes to from, whatever else is there.
func TestWithoutWith(t *testing.T) {
	for _, s := range []string{"", "()", "()*-1", "(1)", "(1)*-3 (1, 2)*1000000000 (null)", "(null, null) (true) (false)*2 ('a')", "(1)*-1000000000"} {
		for _, old := range []string{"", "()", "(1)", "(1)*1000000000", "(2) (3)"} {
			for _, with := range []Change{{}, change("(1)", ""), change("", "(1)"), change("(1)*1000000000", "(1)*1000000000"), change(s, s)} {
				for _, at := range [][2]int{{}, {0, 1}, {-1, math.MaxInt}} {
					expectBoth(t, api.View{On: at}, change(old, s), with, sample.Bag(s), api.OK)
				}
			}
		}
	}
	// Neither many rows nor long ones are too many without a join.
	many := Change{Old: run(1, 200), Diff: run(1, 10001)}
	expectBoth(t, api.View{}, many, many, run(1, 10001), api.OK)
	long := Change{Old: wide(40, 1), Diff: wide(40, sample.Billion)}
	expectBoth(t, api.View{}, long, long, wide(40, sample.Billion), api.OK)
	// No name of the view is asked for but With.
	expectBoth(t, api.View{Name: "v", From: "t"}, change("(1)", "(2)"), change("(2)", "(2)"), sample.Bag("(2)"), api.OK)
	expectBoth(t, api.View{With: " "}, change("(1)", "(2)"), change("(2)", "(2)"), sample.Bag("(2, 2)*2"), api.OK)
}

// P13.1, P13.2: where nothing changes, nothing comes.
func TestNoChange(t *testing.T) {
	for _, v := range []api.View{{}, on(0, 0), on(1, 0), parsed("from t where [c0 1 <] pick"), parsed("from t join u on 0 = 1 where [c7] pick"), {With: "w", Where: api.Expr{{Op: -1}}}} {
		for _, s := range []string{"", "()", "(1)", "('a', 1) (true)", "(1)*1000000000 (1, 1)*-1000000000"} {
			for _, other := range []string{"", "(1)", "('a') (1, 1)*1000000000"} {
				expectBoth(t, v, change(s, ""), change(other, ""), nil, api.OK)
			}
		}
		expectBoth(t, v, Change{Old: run(1, 101), Diff: api.Bag{}}, Change{Old: run(1, 100)}, nil, api.OK)
		expectBoth(t, v, Change{Old: api.Bag{}, Diff: api.Bag{}}, Change{Old: api.Bag{}, Diff: api.Bag{}}, nil, api.OK)
		expectBoth(t, v, Change{}, Change{}, nil, api.OK)
	}
}

// P13.1: where there was nothing, what comes is the join of what comes.
func TestNothingOld(t *testing.T) {
	expectBoth(t, on(0, 0), change("", "(1)*2 (2)"), change("", "(1)*3 (3)"), sample.Bag("(1, 1)*6"), api.OK)
	expectBoth(t, on(0, 0), change("", "(1)*-2"), change("", "(1)*3"), sample.Bag("(1, 1)*-6"), api.OK)
	expectBoth(t, on(0, 0), change("", "(1)"), change("", ""), nil, api.OK)
	expectBoth(t, on(0, 0), change("", ""), change("", "(1)"), nil, api.OK)
	expectBoth(t, on(0, 0), change("(1)", ""), change("", "(1)"), sample.Bag("(1, 1)"), api.OK)
	expectBoth(t, on(0, 0), change("", "(1)"), change("(1)", ""), sample.Bag("(1, 1)"), api.OK)
}

// P13.1: rows whose columns do not exist, or are null, are joined with none.
func TestNoColumn(t *testing.T) {
	c := change("() (null) (null, 1) (1)", "(null)*2 (1, null) (2) (2, 2)")
	d := change("(null) (1, 5) (2)", "() (null, null) (2, null)")
	expectBoth(t, on(0, 0), c, d, sample.Bag("(1, null, 1, 5) (2, 2) (2, 2, null) (2, 2, 2) (2, 2, 2, null)"), api.OK)
	for _, at := range [][2]int{{-1, 0}, {0, -1}, {-1, -1}, {2, 0}, {0, 2}, {2, 2}, {math.MinInt, math.MinInt}, {math.MaxInt, math.MaxInt}, {0, math.MaxInt}, {40, 0}} {
		expectBoth(t, on(at[0], at[1]), c, d, nil, api.OK)
	}
	expectBoth(t, on(1, 0), c, d, sample.Bag("(2, 2, 2) (2, 2, 2, null)"), api.OK)
	expectBoth(t, on(0, 0), change("()", "()*2"), change("()", "()*3"), nil, api.OK)
}

// P13.1: parts that cancel each other leave nothing, and are no error.
func TestCancel(t *testing.T) {
	for _, c := range []struct {
		from, with Change
		want       string
	}{
		// All three of them together; two of them, while the third is empty.
		{change("(1)*4", "(1)*2"), change("(1)*3", "(1)*-1"), ""},
		{change("(1)*-2", "(1)"), change("(1)", "(1)"), ""},
		{change("(1)*1000", "(1)*1000"), change("(1)*2000", "(1)*-1000"), ""},
		{change("", "(1)*7"), change("(1)*4", "(1)*-4"), ""},
		{change("(1)*4", "(1)*-4"), change("", "(1)*7"), ""},
		{change("(1) (1, 1)*-1", "(1, 1)"), change("", "(1) (1, 1)"), "(1, 1) (1, 1, 1)"},
		// Of different pairs that make the same row.
		{change("(1)", "(1, 1)"), change("(1)", "(1, 1)*-1"), "(1, 1, 1, 1)*-1"},
		{change("(1)*-1", "(1, 1)"), change("(1)", "(1, 1)"), "(1, 1, 1, 1)"},
		// One row, but not another.
		{change("(1)*4 (2)", "(1)*2 (2)"), change("(1)*3 (2)", "(1)*-1"), "(2, 2)"},
		{change("(1)*4 (2)", "(1)*2"), change("(1)*3 (2)", "(1)*-1 (2)*-1"), "(2, 2)*-1"},
		{change("(0) (1)*4", "(1)*2"), change("(0) (1)*3", "(0)*-1 (1)*-1"), "(0, 0)*-1"},
		// Diffs that cancel what there was: on one side, on the other, on both.
		{change("(1)*3 (2)", "(1)*-3 (2)*-1"), change("(1)*2 (2)", ""), "(1, 1)*-6 (2, 2)*-1"},
		{change("(1)*3 (2)", ""), change("(1)*2 (2)", "(1)*-2 (2)*-1"), "(1, 1)*-6 (2, 2)*-1"},
		{change("(1)*3 (2)", "(1)*-3 (2)*-1"), change("(1)*2 (2)", "(1)*-2 (2)*-1"), "(1, 1)*-6 (2, 2)*-1"},
		{change("(1)*3", "(1)*-3 (2)"), change("(1)*2", "(1)*-2 (2)"), "(1, 1)*-6 (2, 2)"},
	} {
		expectBoth(t, on(0, 0), c.from, c.with, sample.Bag(c.want), api.OK)
	}
}

// P13.1: sums of the parts at the bound, and such that come back from beyond it, whichever part is added last.
func TestSum(t *testing.T) {
	for _, c := range []struct {
		from, with Change
		want       string
	}{
		{change("(1)", "(1)*499999999"), change("(1)", "(1)"), "(1, 1)*999999999"},
		{change("(1)*2", "(1)*499999999"), change("(1)", "(1)"), "(1, 1)*1000000000"},
		{change("(1)*-2", "(1)*-499999999"), change("(1)", "(1)"), "(1, 1)*-1000000000"},
		{change("(1)*999999998", "(1)"), change("(1)", "(1)"), "(1, 1)*1000000000"},
		{change("", "(1)*500000000"), change("(1)", "(1)"), "(1, 1)*1000000000"},
		{change("(1)", "(1)"), change("", "(1)*500000000"), "(1, 1)*1000000000"},
		{change("(1)*500000000", "(1, 1)*500000000"), change("(1)", "(1, 1)"), "(1, 1, 1)*1000000000 (1, 1, 1, 1)*500000000"},
		{change("(1)*-5", "(1)*1000000000"), change("(1)", "(1)*-1"), "(1, 1)*5"},
		{change("(1)*1000000000", "(1)"), change("(1)*-2", "(1)"), "(1, 1)*999999999"},
		{change("(1)*1000000000", "(1)*-1"), change("(1)*-1", "(1)"), "(1, 1)*1000000000"},
		{change("(1)*1000000000", "(1)*-500000000"), change("(1)", "(1)"), ""},
		// What there was all along is not in the sum.
		{change("(1)*1000000000 (2)", "(2)"), change("(1)*1000000000 (2)", "(2)"), "(2, 2)*3"},
	} {
		expectBoth(t, on(0, 0), c.from, c.with, sample.Bag(c.want), api.OK)
	}
}

// P13.1: a sum of the parts that is too great, though none of them is.
func TestGreatSum(t *testing.T) {
	for _, c := range []struct{ from, with Change }{
		// All three parts together.
		{change("(1)*3", "(1)*499999999"), change("(1)", "(1)")},
		{change("(1)*-3", "(1)*-499999999"), change("(1)", "(1)")},
		{change("(1)*999999999", "(1)"), change("(1)", "(1)")},
		{change("(1)*1000000000", "(1)*1000000000"), change("(1)", "(1)")},
		// The first and the second; the first and the third; the second and the third.
		{change("(1)*500000000", "(1, 1)*500000001"), change("(1)", "(1, 1)")},
		{change("(1)*500000001", "(1, 1)*-500000000"), change("(1)*-1", "(1, 1)")},
		{change("", "(1)*500000001"), change("(1)", "(1)")},
		{change("(1)", "(1)"), change("", "(1)*500000001")},
		{change("(1)", "(1)"), change("", "(1)*-500000001")},
		// Of one row among others, in each place.
		{change("(0) (1) (2)", "(0) (1)*500000001 (2)"), change("(0) (1) (2)", "(1) (2)")},
		{change("(1) (2)", "(0) (1)*500000001 (2)"), change("(1) (2)", "(1) (2)")},
		{change("(0) (1)", "(0) (1)*500000001 (2)"), change("(0) (1)", "(1)")},
	} {
		expectBoth(t, on(0, 0), c.from, c.with, nil, api.ErrQueryMany)
	}
}

// partsOf returns changes of which the parts that are named (1 of Diff and Old, 2 of Old and Diff, 4 of both Diffs) are the products of left and right, apart from each other; the others are empty.
func partsOf(parts int, left, right api.Bag) (from, with Change) {
	add := func(b *api.Bag, rows api.Bag, key int) {
		moved := sample.Copy(rows)
		for i := range moved {
			moved[i].Row[0] = sample.Num(key)
		}
		*b = bag.Plus(*b, moved)
	}
	for i, sides := range [][2]*api.Bag{{&from.Diff, &with.Old}, {&from.Old, &with.Diff}, {&from.Diff, &with.Diff}} {
		if parts>>i&1 == 1 {
			add(sides[0], left, i)
			add(sides[1], right, i)
		}
	}
	return from, with
}

// tooMany are bags whose join is too great: of too many pairs, too long rows, too great counts.
func tooMany() [][2]api.Bag {
	return [][2]api.Bag{
		{run(1, 101), run(1, 100)}, {run(1, 100), run(1, 101)}, {run(1, 1), run(1, 10001)}, {run(1, 10001), run(1, 1)},
		{wide(40, 1), wide(1, 1)}, {wide(20, 1), wide(21, -1)}, {wide(1, 1), wide(40, 1)},
		{wide(1, sample.Billion), wide(1, 2)}, {wide(1, 31623), wide(1, -31623)}, {wide(2, -sample.Billion), wide(2, sample.Billion)},
	}
}

// P13.1: an error of the first, the second, the third part, of two of them, of all three.
func TestPartErrors(t *testing.T) {
	for i, sides := range tooMany() {
		for parts := range 8 {
			from, with := partsOf(parts, sides[0], sides[1])
			want := api.ErrQueryMany
			if parts == 0 {
				want = api.OK
			}
			expectBoth(t, on(0, 0), from, with, nil, want)
			// Columns that do not exist join nothing, so that nothing is too great.
			expectBoth(t, on(0, 40), from, with, nil, api.OK)
		}
		if t.Failed() {
			t.Fatal(i)
		}
	}
}

// P13.1: the old rows are not joined with each other, so that they have no error, however many they are.
func TestOldRows(t *testing.T) {
	for _, sides := range tooMany() {
		from, with := Change{Old: bag.Plus(sides[0], sample.Bag("(5, 5)"))}, Change{Old: bag.Plus(sides[1], sample.Bag("(5)"))}
		expectBoth(t, on(0, 0), from, with, nil, api.OK)
		from.Diff, with.Diff = sample.Bag("(5) (7)"), sample.Bag("(5, 6) (8)")
		expectBoth(t, on(0, 0), from, with, sample.Bag("(5, 5) (5, 5, 5, 6) (5, 5, 6)"), api.OK)
	}
	// Though those that go are joined with them.
	all := Change{Old: run(1, 101), Diff: bag.Neg(run(1, 101))}
	expectBoth(t, on(0, 0), all, all, nil, api.ErrQueryMany)
}

// P13.1: each part may have as many pairs as a join may have.
func TestManyPairs(t *testing.T) {
	from, with := partsOf(7, run(1, 100), run(1, 100))
	for _, call := range []asked{Product, Joined} {
		got, bad := call(on(0, 0), from, with)
		if bad != api.OK || len(got) != 30000 || sample.Total(got) != 30000 || !bag.May(got) {
			t.Errorf("%d rows, error %d", len(got), bad)
		}
	}
}

// P13.1: each bag that is not valid, alone and together with others; ahead of all other errors, also without With.
func TestInvalid(t *testing.T) {
	views := []api.View{{}, on(0, 0), on(-1, 50), parsed("from t where [c0 1 + 5 <] pick"), parsed("from t join u on 0 = 0 where [c0] pick")}
	many := []api.Bag{run(1, 101), sample.Bag("('a')"), nil}
	for _, v := range views {
		for i, b := range sample.Invalid() {
			for which := 1; which < 16; which++ {
				l := [4]api.Bag{many[i%3], many[(i+which)%3], many[(i+which/2)%3], many[0]}
				for at := range l {
					if which>>at&1 == 1 {
						l[at] = b
					}
				}
				expectBoth(t, v, Change{Old: l[0], Diff: l[1]}, Change{Old: l[2], Diff: l[3]}, nil, api.ErrArg)
			}
			// Where nothing else is there, and nothing changes.
			for at := range 4 {
				var l [4]api.Bag
				l[at] = b
				expectBoth(t, v, Change{Old: l[0], Diff: l[1]}, Change{Old: l[2], Diff: l[3]}, nil, api.ErrArg)
			}
			if t.Failed() {
				t.Fatal(i)
			}
		}
	}
	// The bags alone are asked, not their sum: what there is may be beyond what is valid.
	from := change("(1)*1000000000", "(1)*1000000000")
	expectBoth(t, api.View{}, from, change("", ""), from.Diff, api.OK)
	expectBoth(t, on(0, 0), from, change("(1)", ""), sample.Bag("(1, 1)*1000000000"), api.OK)
}

// P13.2: conditions that some of the changed rows meet and others do not.
func TestConditions(t *testing.T) {
	for _, c := range []struct {
		view       string
		from, with Change
		want       string
	}{
		{"from t where [c0 2 <] pick", change("(1)", "(1)*2 (2) (3)*-1 (0)*-4"), Change{}, "(0)*-4 (1)*2"},
		{"from t where [c0 2 <] pick", change("(1) (0)", "(2) (3)*-1"), Change{}, ""},
		{"from t where [c1 null?] pick", change("(1, 1)", "(1, 1)*-1 (1, null)"), Change{}, "(1, null)"},
		{"from t where [c1 null? not] pick", change("(1, 1)", "(1, 1)*-1 (1, null)"), Change{}, "(1, 1)*-1"},
		// Null is not true.
		{"from t where [c0] pick", change("", "(null) (false)*2 (true)*3"), Change{}, "(true)*3"},
		{"from t where [c0 1 <] pick", change("(0)", "(null)*5 (0)*-1"), Change{}, "(0)*-1"},
		{"from t where [null] pick", change("", "(1)"), Change{}, ""},
		{"from t where [true] pick", change("", "(1)*-1"), Change{}, "(1)*-1"},
		{"from t where [false] pick", change("", "(1)*-1"), Change{}, ""},
		// Columns of both sides.
		{"from t join u on 0 = 0 where [c1 c3 <] pick", change("(1, 5)", "(1, 7) (1, 1)"), change("(1, 6)", "(1, 2)"), "(1, 1, 1, 2) (1, 1, 1, 6)"},
		{"from t join u on 0 = 0 where [c1 c3 =] pick", change("(1, 5)*2", "(1, 6)"), change("(1, 6)*3", "(1, 5)*-2"), "(1, 5, 1, 5)*-4 (1, 6, 1, 6)*3"},
		{"from t join t on 0 = 1 where [c0 c2 < not] pick", change("(1, 1) (1, 2)", "(2, 1) (1, 2)*-1"), change("(1, 1) (1, 2)", "(2, 1) (1, 2)*-1"), "(1, 2, 1, 1)*-1"},
		{"from t join u on 0 = 0 where [c1 1 + 3 <] pick", change("(1, 0)", "(1, 1)"), change("(1, 0)", "(1, 2)*-1"), "(1, 0, 1, 2)*-1 (1, 1, 1, 0) (1, 1, 1, 2)*-1"},
	} {
		expectJoined(t, parsed(c.view), c.from, c.with, sample.Bag(c.want), api.OK)
	}
	// Product does not ask the condition.
	expectProduct(t, parsed("from t where [false] pick"), change("", "(1)"), Change{}, sample.Bag("(1)"), api.OK)
	expectProduct(t, parsed("from t join u on 0 = 0 where [c9] pick"), change("", "(1)"), change("(1)", ""), sample.Bag("(1, 1)"), api.OK)
	expectProduct(t, parsed("from t join u on 0 = 0 where ["+most+" 1 + 3 <] pick"), change("", "(1)"), change("(1)", ""), sample.Bag("(1, 1)"), api.OK)
}

// P13.2: errors of conditions, at changed rows alone.
func TestConditionErrors(t *testing.T) {
	for _, c := range []struct {
		view       string
		from, with Change
		want       api.Errno
	}{
		{"from t where [c0 not] pick", change("", "(1)"), Change{}, api.ErrExprType},
		{"from t where [c0 1 <] pick", change("(1)", "(0) ('a')*-1"), Change{}, api.ErrExprType},
		{"from t where [c1 1 <] pick", change("(1, 1)", "(1)"), Change{}, api.ErrExprType},
		{"from t where [c0 1 + 5 <] pick", change("(1)", "("+most+")"), Change{}, api.ErrExprOverflow},
		{"from t where [c0 1 - 5 <] pick", change("(1)", "(1) ("+least+")*-7"), Change{}, api.ErrExprOverflow},
		{"from t join u on 0 = 0 where [c3 not] pick", change("", "(1, 5)"), change("(1, 5)", ""), api.ErrExprType},
		{"from t join u on 0 = 0 where [c4] pick", change("(1, 5)", ""), change("", "(1, 5)"), api.ErrExprType},
		{"from t join u on 0 = 0 where [c1 c3 + 5 <] pick", change("", "(1, 5)"), change("", "(1, "+most+")"), api.ErrExprOverflow},
		{"from t join u on 0 = 0 where [c1 c3 * 5 <] pick", change("(1, 5)", "(1, 2)*-1"), change("(1, "+most+")", ""), api.ErrExprOverflow},
		// The first row's error is told: the least one's, whichever part it comes of.
		{"from t where [c0 1 + 5 <] pick", change("", "("+most+") ('a')"), Change{}, api.ErrExprOverflow},
		{"from t where [c0 1 + 5 <] pick", change("", "(true) ("+most+")"), Change{}, api.ErrExprType},
		{"from t join u on 0 = 0 where [c1 c3 + 5 <] pick", change("(1, 1)", "(2, 1)"), change("(2, "+most+")", "(1, 'a')"), api.ErrExprType},
		{"from t join u on 0 = 0 where [c1 c3 + 5 <] pick", change("(2, 1)", "(1, 1)"), change("(1, "+most+")", "(2, 'a')"), api.ErrExprOverflow},
		// The old rows are not asked, nor is what cancels.
		{"from t where [c0 1 <] pick", change("('a')", ""), Change{}, api.OK},
		{"from t join u on 0 = 0 where [c1 1 <] pick", change("(1, 'a')", "(2, 2)"), change("(1, 1)", "(2, 2)"), api.OK},
		{"from t join u on 0 = 0 where [c1 1 <] pick", change("(1, 'a')", "(1, 'a')*-1"), change("", "(1)"), api.OK},
		// Rows that have no partners are not asked.
		{"from t join u on 0 = 0 where [c1 1 <] pick", change("(1, 1)", "(2, 'a')"), change("(1, 1)", "(3, 'a')"), api.OK},
	} {
		expectJoined(t, parsed(c.view), c.from, c.with, nil, c.want)
		if _, bad := Product(parsed(c.view), c.from, c.with); bad != api.OK {
			t.Errorf("%s: the product has error %d", c.view, bad)
		}
	}
}

// P13.2: Product's errors are told ahead of the condition's.
func TestErrorOrder(t *testing.T) {
	views := []api.View{parsed("from t join u on 0 = 0 where [c0 not] pick"), parsed("from t join u on 0 = 0 where [" + most + " 1 + 5 <] pick"), parsed("from t join u on 0 = 0 where [false] pick")}
	for _, v := range views {
		for _, sides := range tooMany() {
			for parts := 1; parts < 8; parts++ {
				from, with := partsOf(parts, sides[0], sides[1])
				// One row that the condition is asked of, ahead of all others.
				from.Diff, with.Old = bag.Plus(from.Diff, sample.Bag("(-1)")), bag.Plus(with.Old, sample.Bag("(-1)"))
				expectJoined(t, v, from, with, nil, api.ErrQueryMany)
				from.Old = sample.One(nil, 0)
				expectJoined(t, v, from, with, nil, api.ErrArg)
			}
		}
		expectJoined(t, v, change("(0)", "(0) (1)*500000001"), change("(0) (1)", "(1)"), nil, api.ErrQueryMany)
	}
}
