package delta

import (
	"math"
	"slices"
	"testing"

	"levee/api"
	"levee/bag"
	"levee/key"
	"levee/query"
	"levee/sample"
)

// counted are rows, by their encodings, and how often they are there.
type counted map[string]int

// add adds the join of from and with by the columns on, times n, row by row.
func (c counted) add(on [2]int, from, with api.Bag, n int) {
	cell := func(r api.Row, at int) api.Value {
		if at < 0 || at >= len(r) {
			return api.Value{}
		}
		return r[at]
	}
	for _, a := range from {
		for _, b := range with {
			if x := cell(a.Row, on[0]); x.Kind != api.Null && x == cell(b.Row, on[1]) {
				c[key.Encode(slices.Concat(a.Row, b.Row))] += a.N * b.N * n
			}
		}
	}
}

// bag returns what is there, rising.
func (c counted) bag() api.Bag {
	var b api.Bag
	for s, n := range c {
		if r, _ := key.Decode(s); n != 0 {
			b = append(b, api.Count{Row: r, N: n})
		}
	}
	slices.SortFunc(b, func(x, y api.Count) int { return key.Compare(x.Row, y.Row) })
	return b
}

// changeSlowly returns how the join changes that has no errors: all pairs of what there is then, without those of what there was.
func changeSlowly(on [2]int, from, with Change) api.Bag {
	c := counted{}
	newFrom, newWith := slices.Concat(from.Old, from.Diff), slices.Concat(with.Old, with.Diff)
	c.add(on, newFrom, newWith, 1)
	c.add(on, from.Old, with.Old, -1)
	return c.bag()
}

// P13.1: all small bags of numbers.
func TestAllChanges(t *testing.T) {
	rows := []api.Row{{sample.Num(1)}, {sample.Num(1), sample.Num(2)}, {sample.Num(2), sample.Num(1)}}
	old, diff := sample.Bags(2, rows, 2), sample.Bags(2, rows, 1, -2)
	for i, a := range old {
		for j, b := range old {
			for _, diffA := range diff {
				for _, diffB := range diff {
					from, with := Change{Old: a, Diff: diffA}, Change{Old: b, Diff: diffB}
					at := [...][2]int{{0, 0}, {1, 0}, {0, 1}}[(i+j)%3]
					expectBoth(t, on(at[0], at[1]), from, with, changeSlowly(at, from, with), api.OK)
					if t.Failed() {
						t.FailNow()
					}
				}
			}
		}
	}
}

// P13.1: all counts out of some at the bounds: each part may be too great, and their sum.
func TestAllCounts(t *testing.T) {
	half := sample.Billion / 2
	var counts []int
	for _, n := range []int{0, 1, 2, 3, half - 1, half, half + 1, sample.Billion - 2, sample.Billion - 1, sample.Billion} {
		counts = append(counts, n, -n)
	}
	counts = counts[1:]
	times := func(n int) api.Bag {
		if n == 0 {
			return nil
		}
		return wide(1, n)
	}
	beyond := func(n int) bool { return n > sample.Billion || n < -sample.Billion }
	sums := map[bool]int{}
	for _, a := range counts {
		for _, diffA := range counts {
			for _, b := range counts {
				for _, diffB := range counts {
					first, second, third := diffA*b, a*diffB, diffA*diffB
					sum := first + second + third
					var want api.Bag
					bad := api.OK
					if beyond(first) || beyond(second) || beyond(third) || beyond(sum) {
						bad = api.ErrQueryMany
					} else if sum != 0 {
						want = wide(2, sum)
					}
					expectProduct(t, on(0, 0), Change{times(a), times(diffA)}, Change{times(b), times(diffB)}, want, bad)
					if t.Failed() {
						t.FailNow()
					}
					// Such as come back from beyond the bound, and such as only the sum leads there.
					if bad == api.OK && (beyond(first+second) || beyond(second+third) || beyond(first+third)) {
						sums[true]++
					} else if bad != api.OK && !beyond(first) && !beyond(second) && !beyond(third) {
						sums[false]++
					}
				}
			}
		}
	}
	if sums[true] == 0 || sums[false] == 0 {
		t.Error(sums)
	}
}

// draw returns numbers that seem to follow no rule, always the same ones.
type draw uint64

func (d *draw) below(n int) int {
	*d = *d*6364136223846793005 + 1442695040888963407
	return int(uint64(*d) >> 33 % uint64(n))
}

// bag returns a bag of up to size rows of up to three small values, with counts up to 3, of both signs if so asked.
func (d *draw) bag(size int, signed bool) api.Bag {
	values := []api.Value{{}, sample.Num(0), sample.Num(1), sample.Num(2), sample.Num(3), sample.Text("a"), sample.Text("b"), {Kind: api.Bool, N: 1}}
	var all []api.Bag
	for range d.below(size + 1) {
		r := make(api.Row, min(d.below(5), 3))
		for i := range r {
			r[i] = values[d.below(len(values))]
		}
		n := 1 + d.below(3)
		if signed && d.below(2) == 0 {
			n = -n
		}
		all = append(all, sample.One(r, n))
	}
	return bag.Plus(all...)
}

// change returns a drawn change. What goes is often such as was there.
func (d *draw) change() Change {
	c := Change{Old: d.bag(8, d.below(4) == 0), Diff: d.bag(5, true)}
	if d.below(2) == 0 && len(c.Old) > 0 {
		gone := c.Old[d.below(len(c.Old)):]
		c.Diff = bag.Plus(c.Diff, bag.Neg(gone[:1+d.below(len(gone))]))
	}
	return c
}

// joinedRows returns the joined rows of v, as chapter 10 says them.
func joinedRows(v api.View, from, with api.Bag) (api.Bag, api.Errno) {
	product, bad := query.Product(v, from, with)
	if bad != api.OK {
		return nil, bad
	}
	return query.Where(v, product)
}

// followed asks whether the joined rows of what there was, and Joined together, are those of what there is then. It reports whether there was no error.
func followed(t *testing.T, v api.View, from, with Change) bool {
	t.Helper()
	before, badBefore := joinedRows(v, from.Old, with.Old)
	after, badAfter := joinedRows(v, bag.Plus(from.Old, from.Diff), bag.Plus(with.Old, with.Diff))
	diff, bad := Joined(v, from, with)
	if badBefore != api.OK || badAfter != api.OK || bad != api.OK {
		return false
	}
	if got := bag.Plus(before, diff); !sample.Same(got, after) {
		t.Errorf("%s: %s and %s are %s, not %s", shown(v, from, with), sample.Show(before), sample.Show(diff), sample.Show(got), sample.Show(after))
	}
	return true
}

// followViews are views with and without a With, of conditions that have no errors for most rows, or for all.
func followViews() []api.View {
	var views []api.View
	for _, s := range []string{
		"from t pick", "from t where [c0 null?] pick", "from t where [c0 1 =] pick", "from t where [c1 2 <] pick",
		"from t join u on 0 = 0 pick", "from t join u on 1 = 0 pick", "from t join u on 0 = 1 pick", "from t join u on 2 = 2 pick", "from t join u on 0 = 3 pick",
		"from t join u on 0 = 0 where [c1 null? not] pick", "from t join u on 0 = 0 where [c0 1 =] pick", "from t join u on 0 = 0 where [c0 1 + 3 <] pick", "from t join u on 1 = 1 where [c0 c2 =] pick",
	} {
		views = append(views, parsed(s))
	}
	return views
}

// P13.3: drawn bags, joined with others and with themselves.
func TestFollow(t *testing.T) {
	var d draw
	fine := make([]int, len(followViews()))
	for range 1500 {
		for i, v := range followViews() {
			from, with := d.change(), d.change()
			if followed(t, v, from, with) {
				fine[i]++
			}
			followed(t, v, from, from)
			// What comes, goes again; and what there is, comes.
			followed(t, v, Change{Old: bag.Plus(from.Old, from.Diff), Diff: bag.Neg(from.Diff)}, with)
			followed(t, v, Change{Diff: from.Old}, Change{Diff: with.Old})
			followed(t, v, Change{Old: from.Old, Diff: bag.Neg(from.Old)}, with)
			if t.Failed() {
				t.FailNow()
			}
		}
	}
	for i, n := range fine {
		if n < 50 {
			t.Error(followViews()[i], n)
		}
	}
}

// P13.3: changes one after the other, and all of them at once, come to the same.
func TestSteps(t *testing.T) {
	var d draw
	steps := 0
	for range 300 {
		for _, v := range followViews() {
			first, second := d.change(), d.change()
			sum, bad := joinedRows(v, first.Old, second.Old)
			from, with := Change{Old: first.Old}, Change{Old: second.Old}
			for range 6 {
				from.Diff, with.Diff = d.bag(3, true), d.bag(3, true)
				diff, badDiff := Joined(v, from, with)
				if badDiff != api.OK {
					bad = badDiff
				}
				sum = bag.Plus(sum, diff)
				from, with = Change{Old: bag.Plus(from.Old, from.Diff)}, Change{Old: bag.Plus(with.Old, with.Diff)}
			}
			want, badWant := joinedRows(v, from.Old, with.Old)
			if bad != api.OK || badWant != api.OK {
				continue
			}
			steps++
			if !sample.Same(sum, want) {
				t.Fatalf("%s: %s, not %s", shown(v, first, second), sample.Show(sum), sample.Show(want))
			}
		}
	}
	if steps < 1000 {
		t.Error(steps)
	}
}

// manyBags are bags of all kinds: with negative and with great counts, with long rows and with many rows, and some that are not valid.
func manyBags() []api.Bag {
	bags := []api.Bag{nil, sample.Bag("()*-2 (1)*3"), sample.Bag("(null) (1)*-5 (1, 1) (true) ('x')"), sample.Bag("(1)*1000000000 (" + most + ")*2"), sample.Bag("(1, " + most + ") (1, " + least + ")*3"), sample.Bag("(0, 1) (1, 0)*2 (2, 1)"), run(1, 101), wide(40, 1), wide(20, 7), wide(21, -1)}
	return append(bags, sample.Invalid()[0], sample.Invalid()[9], make(api.Bag, 1))
}

// manyViews are views that may be in a catalog and such that may not.
func manyViews() []api.View {
	var views []api.View
	for _, w := range []api.Expr{nil, parsed("from t where [c0 1 + 3 <] pick").Where, parsed("from t where [c1 null? not] pick").Where, {{Op: -1}}, make(api.Expr, 101), {{Op: api.ECol, N: math.MinInt}, {Op: api.EIsNull}}} {
		for j, at := range [][2]int{{0, 0}, {1, 0}, {math.MinInt, math.MaxInt}} {
			v := api.View{With: []string{"w", "\xff", "w"}[j], On: at, Where: w, Pick: []int{math.MaxInt}, Aggs: make([]api.Agg, 50)}
			views = append(views, v)
			v.With = ""
			views = append(views, v)
		}
	}
	return views
}

// productByCalls returns what Product is to return: what query.Product answers, thrice, and the sum of that.
func productByCalls(v api.View, from, with Change) (api.Bag, api.Errno) {
	for _, b := range []api.Bag{from.Old, from.Diff, with.Old, with.Diff} {
		if !bag.May(b) {
			return nil, api.ErrArg
		}
	}
	if v.With == "" {
		return from.Diff, api.OK
	}
	first, badFirst := query.Product(v, from.Diff, with.Old)
	second, badSecond := query.Product(v, from.Old, with.Diff)
	third, badThird := query.Product(v, from.Diff, with.Diff)
	for _, bad := range []api.Errno{badFirst, badSecond, badThird} {
		if bad != api.OK {
			return nil, bad
		}
	}
	c := counted{}
	for _, one := range slices.Concat(first, second, third) {
		c[key.Encode(one.Row)] += one.N
	}
	sum := c.bag()
	if !bag.May(sum) {
		return nil, api.ErrQueryMany
	}
	return sum, api.OK
}

// P13.1, P13.2, P1: what the layers below answer, one after the other, whatever is given; nothing panics, and beside an error there is nothing.
func TestCalls(t *testing.T) {
	seen := map[api.Errno]int{}
	bags := manyBags()
	for i, v := range manyViews() {
		for j := range len(bags) * len(bags) {
			from := Change{Old: bags[j%len(bags)], Diff: bags[j/len(bags)]}
			for k := i % 23; k < len(bags)*len(bags); k += 23 {
				with := Change{Old: bags[k%len(bags)], Diff: bags[k/len(bags)]}
				if v.With == "" && (j+k)%9 > 0 {
					continue
				}
				want, bad := productByCalls(v, from, with)
				expectProduct(t, v, from, with, want, bad)
				if bad == api.OK {
					want, bad = query.Where(v, want)
				}
				expectJoined(t, v, from, with, want, bad)
				if t.Failed() {
					t.FailNow()
				}
				seen[bad]++
			}
		}
	}
	for _, e := range []api.Errno{api.OK, api.ErrArg, api.ErrExprType, api.ErrExprOverflow, api.ErrQueryMany} {
		if seen[e] == 0 {
			t.Error("nothing has error", e)
		}
	}
}

// R4: what is given stays as it is, and so does the room behind it; what is answered shares no memory with it, nor do two rows of one answer.
func TestMemory(t *testing.T) {
	for _, s := range []string{"from t pick", "from t where [c0 2 <] pick", "from t join u on 0 = 0 pick", "from t join u on 1 = 0 pick", "from t join u on 0 = 9 pick", "from t join u on 0 = 0 where [c0 2 <] pick", "from t where [c0 'a' <] pick"} {
		v := parsed(s)
		for _, call := range []asked{Product, Joined} {
			on := func(l ...api.Bag) api.Bag {
				b, _ := call(v, Change{Old: l[0], Diff: l[1]}, Change{Old: l[2], Diff: l[3]})
				return b
			}
			for _, l := range [][4]string{
				{"(1, 5)*2 (1, 6) (2, 5)", "(1, 2)*-1 (1, 7)", "(1, 1)*3 (2, 5)", "(1) (1, 1)*-3 (2)"},
				{"(1)", "(1)*-1", "(1)", "(1)*-1"}, {"", "(1, 1) (1, 2)", "", "(1)"}, {"(1, 1) (1, 2)", "", "", "(1)"}, {"", "(1, 1) (1, 2)", "(1) (2)", ""},
				{"(1)*4", "(1)*2", "(1)*3", "(1)*-1"}, {"(1)*3", "(1)*499999999", "(1)", "(1)"}, {"", "", "", ""},
			} {
				if fault := sample.Fault(on, sample.Bag(l[0]), sample.Bag(l[1]), sample.Bag(l[2]), sample.Bag(l[3])); fault != "" {
					t.Fatal(s, l, fault)
				}
			}
			if fault := sample.Fault(on, sample.Bag("(1)"), sample.Bag("(2)"), sample.Invalid()[3], sample.Bag("(1)")); fault != "" {
				t.Fatal(s, fault)
			}
		}
	}
}

// R4: bags that share memory with each other, as those of a table that is joined with itself do.
func TestShared(t *testing.T) {
	b := sample.Bag("(1, 1) (1, 2)*3 (2, 1)")
	behind := sample.Behind(b)
	for _, v := range []api.View{on(0, 0), on(1, 0), {}} {
		one, other := Change{Old: behind, Diff: behind[:2]}, Change{Old: behind, Diff: behind[1:]}
		want, bad := productByCalls(v, Change{Old: sample.Copy(b), Diff: sample.Copy(b[:2])}, Change{Old: sample.Copy(b), Diff: sample.Copy(b[1:])})
		expectBoth(t, v, one, other, want, bad)
		got, _ := Joined(v, one, other)
		sample.Scribble(got)
		if !sample.Same(sample.Whole(behind), sample.Whole(sample.Behind(b))) {
			t.Fatal(v.On, "changes what was given")
		}
	}
}

// R4: the view and its lists stay as they are.
func TestView(t *testing.T) {
	c := sample.Catalog("view v from t join u on 0 = 0 where [c0 2 <] pick 1, 0 group count, sum 1", "view w from t where [c0 2 <] pick 0")
	from, with := change("(1, 5) (2, 5)", "(1, 6) (3, 3)*-2"), change("(1) (2)", "(1, 1)")
	for at := range c {
		if fault := sample.CatalogFault(func(c api.Catalog) { Product(c[at].View, from, with); Joined(c[at].View, from, with) }, c); fault != "" {
			t.Error(at, fault)
		}
	}
}
