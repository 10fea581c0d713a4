package query

import (
	"fmt"
	"math"
	"slices"
	"testing"

	"levee/api"
	"levee/bag"
	"levee/key"
	"levee/sample"
)

// rows few in number, rising, in which each thing that a join asks is there: no columns, null, values that are equal and that are not.
func fewRows() []api.Row {
	return []api.Row{
		nil, {{}}, {{}, sample.Num(1)}, {sample.Num(1)}, {sample.Num(1), {}}, {sample.Num(1), sample.Num(1)}, {sample.Num(1), sample.Num(1), sample.Num(1)}, {sample.Num(2), sample.Num(1)}, {sample.Text("1")},
	}
}

// added adds n to the count of r in b, which is in any order and may hold counts of 0.
func added(b api.Bag, r api.Row, n int) api.Bag {
	for i, c := range b {
		if slices.Equal(c.Row, r) {
			b[i].N += n
			return b
		}
	}
	return append(b, api.Count{Row: r, N: n})
}

// settled is what added made, rising, without counts of 0; false, if a count or a row is too great.
func settled(b api.Bag) (api.Bag, bool) {
	slices.SortFunc(b, func(x, y api.Count) int { return key.Compare(x.Row, y.Row) })
	var out api.Bag
	for _, c := range b {
		if len(c.Row) > 40 || c.N > sample.Billion || c.N < -sample.Billion {
			return nil, false
		}
		if c.N != 0 {
			out = append(out, c)
		}
	}
	return out, true
}

// joinedSlowly reckons the join of from and with row by row, out of the chapter's words.
func joinedSlowly(v api.View, from, with api.Bag) (api.Bag, api.Errno) {
	if v.With == "" {
		return from, api.OK
	}
	cell := func(r api.Row, at int) api.Value {
		for i, v := range r {
			if i == at {
				return v
			}
		}
		return api.Value{}
	}
	var sum api.Bag
	pairs := 0
	for _, a := range from {
		for _, b := range with {
			left, right := cell(a.Row, v.On[0]), cell(b.Row, v.On[1])
			if left.Kind == api.Null || left != right {
				continue
			}
			pairs++
			if n := a.N * b.N; pairs > 10000 || n > sample.Billion || n < -sample.Billion {
				return nil, api.ErrQueryMany
			}
			sum = added(sum, slices.Concat(a.Row, b.Row), a.N*b.N)
		}
	}
	out, ok := settled(sum)
	if !ok {
		return nil, api.ErrQueryMany
	}
	return out, api.OK
}

// pickedSlowly reckons the picks of b row by row, out of the chapter's words.
func pickedSlowly(v api.View, b api.Bag) api.Bag {
	var sum api.Bag
	for _, c := range b {
		var r api.Row
		for _, at := range v.Pick {
			if at >= 0 && at < len(c.Row) {
				r = append(r, c.Row[at])
			}
		}
		if len(r) == len(v.Pick) && len(r) <= 40 {
			sum = added(sum, r, c.N)
		}
	}
	out, _ := settled(sum)
	return out
}

// P10.1: each two bags of up to two of a few rows, joined by each two columns.
func TestAllJoins(t *testing.T) {
	bags := sample.Bags(2, fewRows(), 1, -2)
	for i, from := range bags {
		for _, with := range bags[i%2:] {
			for _, v := range []api.View{on(0, 0), on(1, 0), on(0, 1)} {
				want, wantBad := joinedSlowly(v, from, with)
				expectProduct(t, v, from, with, want, wantBad)
			}
		}
		if t.Failed() {
			t.Fatal(sample.Show(from))
		}
	}
}

// P10.1: bags of up to three rows, joined by columns of which some do not exist.
func TestAllColumns(t *testing.T) {
	bags := sample.Bags(3, fewRows(), 3)
	columns := []int{math.MinInt, -1, 0, 1, 2, 3, math.MaxInt}
	for i, from := range bags {
		for j, with := range bags {
			if (i+j)%3 > 0 {
				continue
			}
			for _, left := range columns {
				v := on(left, columns[(i+j/3)%len(columns)])
				want, wantBad := joinedSlowly(v, from, with)
				expectProduct(t, v, from, with, want, wantBad)
			}
		}
		if t.Failed() {
			t.Fatal(sample.Show(from))
		}
	}
}

// P10.1: rows of which many pairs make the same row, with counts that cancel each other, and with counts at the bound of what is valid.
func TestAllCounts(t *testing.T) {
	rows := []api.Row{equal(sample.Num(1), 1), equal(sample.Num(1), 2), equal(sample.Num(1), 3)}
	for _, left := range sample.Bags(3, rows, 1, -1, sample.Billion/2, -sample.Billion/2, sample.Billion, -sample.Billion) {
		for _, right := range sample.Bags(3, rows, 1, -1, 2, -2) {
			want, wantBad := joinedSlowly(on(0, 0), left, right)
			expectProduct(t, on(0, 0), left, right, want, wantBad)
			expectProduct(t, on(0, 0), right, left, want, wantBad)
		}
		if t.Failed() {
			t.Fatal(sample.Show(left))
		}
	}
}

// P10.2: each bag of up to three of a few rows, with each picks of up to three columns.
func TestAllPicks(t *testing.T) {
	picks := [][]int{nil}
	for i := 0; i < len(picks) && len(picks[i]) < 3; i++ {
		for at := -1; at < 4; at++ {
			picks = append(picks, append(slices.Clone(picks[i]), at))
		}
	}
	for _, b := range append(sample.Bags(3, fewRows(), 1, -1), sample.Bags(3, fewRows(), sample.Billion)...) {
		for _, l := range picks {
			expectPick(t, pick(l...), b, pickedSlowly(pick(l...), b))
		}
		if t.Failed() {
			t.Fatal(sample.Show(b))
		}
	}
}

// P10.2: the rows of a bag are asked one after the other: the first error is that of the first row that has one alone.
func TestAllWheres(t *testing.T) {
	// What the conditions answer of a row, by its number in the list: false, null, true, a type error and, where they add, an overflow.
	v := where("c1 0 <")
	cells := []api.Value{sample.Num(1), {}, sample.Num(-1), sample.Text("x")}
	errs := []api.Errno{api.OK, api.OK, api.OK, api.ErrExprType, api.ErrExprOverflow}
	over := where("c1 c2 + 0 <")
	var each func(l []int)
	each = func(l []int) {
		var b, want, overB, overWant api.Bag
		bad, overBad := api.OK, api.OK
		for i, k := range l {
			// Row numbers rise, so that the rows do, whatever they answer.
			c := api.Count{Row: api.Row{sample.Num(i), sample.Num(math.MinInt), sample.Num(-1)}, N: i - 9}
			if k < len(cells) {
				c.Row[1], c.Row[2] = cells[k], sample.Num(0)
			}
			overB = append(overB, c)
			if overBad == api.OK {
				overBad = errs[k]
			}
			if k == 2 {
				overWant = append(overWant, c)
			}
			if k == 4 {
				continue
			}
			b = append(b, c)
			if bad == api.OK {
				bad = errs[k]
			}
			if k == 2 {
				want = append(want, c)
			}
		}
		if bad != api.OK {
			want = nil
		}
		if overBad != api.OK {
			overWant = nil
		}
		expectWhere(t, v, b, want, bad)
		expectWhere(t, over, overB, overWant, overBad)
		if t.Failed() {
			t.Fatal(l)
		}
		if len(l) == 5 {
			return
		}
		for k := range errs {
			each(append(slices.Clone(l), k))
		}
	}
	each(nil)
}

// P10.3: Product distributes over bag.Plus, on either side.
func TestProductOfSums(t *testing.T) {
	bags := sample.Bags(2, []api.Row{{{}}, {sample.Num(1)}, {sample.Num(1), sample.Num(1)}, {sample.Num(1), sample.Num(2)}, {sample.Num(2), sample.Num(1)}}, 1, -1, 3)
	join := func(v api.View, a, b api.Bag) api.Bag {
		p, bad := Product(v, a, b)
		if bad != api.OK {
			t.Fatalf("%v of %s and %s: error %d", v.On, sample.Show(a), sample.Show(b), bad)
		}
		return p
	}
	for i, a := range bags {
		for j, b := range bags {
			c := bags[(i*7+j*11)%len(bags)]
			for _, v := range []api.View{on(0, 0), on(1, 0), on(0, 1), {}} {
				if got, want := join(v, bag.Plus(a, b), c), bag.Plus(join(v, a, c), join(v, b, c)); !sample.Same(got, want) {
					t.Fatalf("%v of %s plus %s with %s: %s, not %s", v.On, sample.Show(a), sample.Show(b), sample.Show(c), sample.Show(got), sample.Show(want))
				}
				if v.With == "" {
					continue
				}
				if got, want := join(v, c, bag.Plus(a, b)), bag.Plus(join(v, c, a), join(v, c, b)); !sample.Same(got, want) {
					t.Fatalf("%v of %s with %s plus %s: %s, not %s", v.On, sample.Show(c), sample.Show(a), sample.Show(b), sample.Show(got), sample.Show(want))
				}
			}
			if got, want := join(on(0, 0), bag.Neg(a), b), bag.Neg(join(on(0, 0), a, b)); !sample.Same(got, want) {
				t.Fatalf("%s negated with %s: %s, not %s", sample.Show(a), sample.Show(b), sample.Show(got), sample.Show(want))
			}
		}
	}
}

// P10.3: Pick distributes over bag.Plus.
func TestPickOfSums(t *testing.T) {
	bags := sample.Bags(2, fewRows(), 1, -1, 5)
	for _, a := range bags {
		for _, b := range bags {
			for _, l := range [][]int{nil, {0}, {1}, {1, 0, 1}} {
				if got, want := Pick(pick(l...), bag.Plus(a, b)), bag.Plus(Pick(pick(l...), a), Pick(pick(l...), b)); !sample.Same(got, want) {
					t.Fatalf("%v of %s plus %s: %s, not %s", l, sample.Show(a), sample.Show(b), sample.Show(got), sample.Show(want))
				}
			}
		}
	}
}

// P1: no call panics, whatever it is given, and what it answers is a valid bag, and an empty one beside an error.
func TestAnything(t *testing.T) {
	bags := append(sample.Invalid(), nil, sample.Bag("()"), sample.Bag("(null) (1)*-5 (1, 1) (true) ('x')"), pairsOf(1, 10001), one(equal(sample.Num(1), 40), sample.Billion), one(make(api.Row, 100000), 1))
	numbers := []int{math.MinInt, -41, -1, 0, 1, 39, 40, 41, math.MaxInt}
	var views []api.View
	for i, n := range numbers {
		for op := -1; op <= api.EOps; op++ {
			v := api.View{With: "w", On: [2]int{n, numbers[(i+op+10)%len(numbers)]}, Pick: []int{n, op}, Where: api.Expr{{Op: api.ECol, N: n}, {Op: op, N: n, V: api.Value{Kind: n, N: n, S: "s"}}}}
			views = append(views, v)
		}
		views = append(views, api.View{With: "\x00", On: [2]int{n, n}, Pick: slices.Repeat([]int{n}, 10000), Where: make(api.Expr, 10000)})
	}
	views = append(views, api.View{}, api.View{With: "w", Pick: make([]int, 40)}, api.View{Pick: make([]int, 41)})
	check := func(what string, b api.Bag, bad api.Errno) {
		if bad != api.OK && len(b) != 0 || !bag.May(b) {
			t.Fatalf("%s: %s, error %d", what, sample.Show(b), bad)
		}
	}
	for i, v := range views {
		for j, a := range bags {
			c := bags[(i+j)%len(bags)]
			p, bad := Product(v, a, c)
			check(fmt.Sprint("product of view ", i), p, bad)
			w, bad := Where(v, a)
			check(fmt.Sprint("where of view ", i), w, bad)
			check(fmt.Sprint("pick of view ", i), Pick(v, a), api.OK)
		}
	}
}

// R4: what is given stays as it is, and so does the room behind it; what is answered shares no memory with it, nor do two rows of one answer.
func TestMemory(t *testing.T) {
	v := where("c0 c0 =")
	v.Pick = []int{1, 0, 1}
	calls := map[string]func(l ...api.Bag) api.Bag{
		"join":    func(l ...api.Bag) api.Bag { b, _ := Product(on(0, 0), l[0], l[1]); return b },
		"no join": func(l ...api.Bag) api.Bag { b, _ := Product(api.View{}, l[0], l[1]); return b },
		"where":   func(l ...api.Bag) api.Bag { b, _ := Where(v, l[0]); return b },
		"all":     func(l ...api.Bag) api.Bag { b, _ := Where(api.View{}, l[0]); return b },
		"pick":    func(l ...api.Bag) api.Bag { return Pick(v, l[0]) },
		"none":    func(l ...api.Bag) api.Bag { return Pick(api.View{}, l[0]) },
	}
	for _, s := range [][2]string{
		{"(1, 5)*2 (1, 6) (2, 5)", "(1) (1, 1)*-1 (2, 8)"}, {"(2) (1)", "(2)"}, {"", "(1)"}, {"(1)", ""}, {"(1)*1000000000", "(1)*2"}, {"(null, 1) (1, null)", "(null) (1)"}, {"(1, 9) ('a')", "()"}, {"(1, 1) (1, 1, 2)", "(1, 1)"},
	} {
		for name, call := range calls {
			if fault := sample.Fault(call, sample.Bag(s[0]), sample.Bag(s[1])); fault != "" {
				t.Errorf("%s of %v: %s", name, s, fault)
			}
		}
	}
}

// R4: the view that is given stays as it is, and so does the room behind its lists.
func TestViewKept(t *testing.T) {
	v := where("c0 c0 =")
	v.With, v.Pick = "w", append(make([]int, 0, 6), 1, 0, 1)
	steps := slices.Clone(v.Where)
	b := sample.Bag("(1, 5)*2 (1, 6) (2, 5)")
	Product(v, b, b)
	Where(v, b)
	Pick(v, b)
	if !slices.Equal(v.Where, steps) || !slices.Equal(v.Pick[:6], []int{1, 0, 1, 0, 0, 0}) {
		t.Error(v.Where, v.Pick[:6])
	}
}
