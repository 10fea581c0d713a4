package query

import (
	"fmt"
	"math"
	"slices"
	"testing"

	"levee/api"
	"levee/bag"
	"levee/key"
)

// smallBags returns every bag of up to size of rows, with each of counts for each row.
func smallBags(size int, rows []api.Row, counts ...int) []api.Bag {
	all := []api.Bag{nil}
	for _, r := range rows {
		for _, b := range all {
			if len(b) < size {
				for _, n := range counts {
					all = append(all, append(copied(b), api.Count{Row: r, N: n}))
				}
			}
		}
	}
	return all
}

// rows few in number, rising, in which each thing that a join asks is there: no columns, null, values that are equal and that are not.
func fewRows() []api.Row {
	return []api.Row{
		nil, {{}}, {{}, num(1)}, {num(1)}, {num(1), {}}, {num(1), num(1)}, {num(1), num(1), num(1)}, {num(2), num(1)}, {text("1")},
	}
}

// added adds n to the count of r in b, which is in any order and may hold counts of 0.
func added(b api.Bag, r api.Row, n int) api.Bag {
	for i, c := range b {
		if slices.Equal(c.Row, r) {
			b[i].N += n
			return b
		}
	}
	return append(b, api.Count{Row: r, N: n})
}

// settled is what added made, rising, without counts of 0; false, if a count or a row is too great.
func settled(b api.Bag) (api.Bag, bool) {
	slices.SortFunc(b, func(x, y api.Count) int { return key.Compare(x.Row, y.Row) })
	var out api.Bag
	for _, c := range b {
		if len(c.Row) > 40 || c.N > billion || c.N < -billion {
			return nil, false
		}
		if c.N != 0 {
			out = append(out, c)
		}
	}
	return out, true
}

// joinedSlowly reckons the join of from and with row by row, out of the chapter's words.
func joinedSlowly(v api.View, from, with api.Bag) (api.Bag, api.Errno) {
	if v.With == "" {
		return from, api.OK
	}
	cell := func(r api.Row, at int) api.Value {
		for i, v := range r {
			if i == at {
				return v
			}
		}
		return api.Value{}
	}
	var sum api.Bag
	pairs := 0
	for _, a := range from {
		for _, b := range with {
			left, right := cell(a.Row, v.On[0]), cell(b.Row, v.On[1])
			if left.Kind == api.Null || left != right {
				continue
			}
			pairs++
			if n := a.N * b.N; pairs > 10000 || n > billion || n < -billion {
				return nil, api.ErrQueryMany
			}
			sum = added(sum, slices.Concat(a.Row, b.Row), a.N*b.N)
		}
	}
	out, ok := settled(sum)
	if !ok {
		return nil, api.ErrQueryMany
	}
	return out, api.OK
}

// pickedSlowly reckons the picks of b row by row, out of the chapter's words.
func pickedSlowly(v api.View, b api.Bag) api.Bag {
	var sum api.Bag
	for _, c := range b {
		var r api.Row
		for _, at := range v.Pick {
			if at >= 0 && at < len(c.Row) {
				r = append(r, c.Row[at])
			}
		}
		if len(r) == len(v.Pick) && len(r) <= 40 {
			sum = added(sum, r, c.N)
		}
	}
	out, _ := settled(sum)
	return out
}

// P10.1: each two bags of up to two of a few rows, joined by each two columns.
func TestAllJoins(t *testing.T) {
	bags := smallBags(2, fewRows(), 1, -2)
	for i, from := range bags {
		for _, with := range bags[i%2:] {
			for _, v := range []api.View{on(0, 0), on(1, 0), on(0, 1)} {
				want, wantBad := joinedSlowly(v, from, with)
				expectProduct(t, v, from, with, want, wantBad)
			}
		}
		if t.Failed() {
			t.Fatal(shown(from))
		}
	}
}

// P10.1: bags of up to three rows, joined by columns of which some do not exist.
func TestAllColumns(t *testing.T) {
	bags := smallBags(3, fewRows(), 3)
	columns := []int{math.MinInt, -1, 0, 1, 2, 3, math.MaxInt}
	for i, from := range bags {
		for j, with := range bags {
			if (i+j)%3 > 0 {
				continue
			}
			for _, left := range columns {
				v := on(left, columns[(i+j/3)%len(columns)])
				want, wantBad := joinedSlowly(v, from, with)
				expectProduct(t, v, from, with, want, wantBad)
			}
		}
		if t.Failed() {
			t.Fatal(shown(from))
		}
	}
}

// P10.1: rows of which many pairs make the same row, with counts that cancel each other, and with counts at the bound of what is valid.
func TestAllCounts(t *testing.T) {
	rows := []api.Row{equal(num(1), 1), equal(num(1), 2), equal(num(1), 3)}
	for _, left := range smallBags(3, rows, 1, -1, billion/2, -billion/2, billion, -billion) {
		for _, right := range smallBags(3, rows, 1, -1, 2, -2) {
			want, wantBad := joinedSlowly(on(0, 0), left, right)
			expectProduct(t, on(0, 0), left, right, want, wantBad)
			expectProduct(t, on(0, 0), right, left, want, wantBad)
		}
		if t.Failed() {
			t.Fatal(shown(left))
		}
	}
}

// P10.2: each bag of up to three of a few rows, with each picks of up to three columns.
func TestAllPicks(t *testing.T) {
	picks := [][]int{nil}
	for i := 0; i < len(picks) && len(picks[i]) < 3; i++ {
		for at := -1; at < 4; at++ {
			picks = append(picks, append(slices.Clone(picks[i]), at))
		}
	}
	for _, b := range append(smallBags(3, fewRows(), 1, -1), smallBags(3, fewRows(), billion)...) {
		for _, l := range picks {
			expectPick(t, pick(l...), b, pickedSlowly(pick(l...), b))
		}
		if t.Failed() {
			t.Fatal(shown(b))
		}
	}
}

// P10.2: the rows of a bag are asked one after the other: the first error is that of the first row that has one alone.
func TestAllWheres(t *testing.T) {
	// What the conditions answer of a row, by its number in the list: false, null, true, a type error and, where they add, an overflow.
	v := where("c1 0 <")
	cells := []api.Value{num(1), {}, num(-1), text("x")}
	errs := []api.Errno{api.OK, api.OK, api.OK, api.ErrExprType, api.ErrExprOverflow}
	over := where("c1 c2 + 0 <")
	var each func(l []int)
	each = func(l []int) {
		var b, want, overB, overWant api.Bag
		bad, overBad := api.OK, api.OK
		for i, k := range l {
			// Row numbers rise, so that the rows do, whatever they answer.
			c := api.Count{Row: api.Row{num(i), num(math.MinInt), num(-1)}, N: i - 9}
			if k < len(cells) {
				c.Row[1], c.Row[2] = cells[k], num(0)
			}
			overB = append(overB, c)
			if overBad == api.OK {
				overBad = errs[k]
			}
			if k == 2 {
				overWant = append(overWant, c)
			}
			if k == 4 {
				continue
			}
			b = append(b, c)
			if bad == api.OK {
				bad = errs[k]
			}
			if k == 2 {
				want = append(want, c)
			}
		}
		if bad != api.OK {
			want = nil
		}
		if overBad != api.OK {
			overWant = nil
		}
		expectWhere(t, v, b, want, bad)
		expectWhere(t, over, overB, overWant, overBad)
		if t.Failed() {
			t.Fatal(l)
		}
		if len(l) == 5 {
			return
		}
		for k := range errs {
			each(append(slices.Clone(l), k))
		}
	}
	each(nil)
}

// P10.3: Product distributes over bag.Plus, on either side.
func TestProductOfSums(t *testing.T) {
	bags := smallBags(2, []api.Row{{{}}, {num(1)}, {num(1), num(1)}, {num(1), num(2)}, {num(2), num(1)}}, 1, -1, 3)
	join := func(v api.View, a, b api.Bag) api.Bag {
		p, bad := Product(v, a, b)
		if bad != api.OK {
			t.Fatalf("%v of %s and %s: error %d", v.On, shown(a), shown(b), bad)
		}
		return p
	}
	for i, a := range bags {
		for j, b := range bags {
			c := bags[(i*7+j*11)%len(bags)]
			for _, v := range []api.View{on(0, 0), on(1, 0), on(0, 1), {}} {
				if got, want := join(v, bag.Plus(a, b), c), bag.Plus(join(v, a, c), join(v, b, c)); !same(got, want) {
					t.Fatalf("%v of %s plus %s with %s: %s, not %s", v.On, shown(a), shown(b), shown(c), shown(got), shown(want))
				}
				if v.With == "" {
					continue
				}
				if got, want := join(v, c, bag.Plus(a, b)), bag.Plus(join(v, c, a), join(v, c, b)); !same(got, want) {
					t.Fatalf("%v of %s with %s plus %s: %s, not %s", v.On, shown(c), shown(a), shown(b), shown(got), shown(want))
				}
			}
			if got, want := join(on(0, 0), bag.Neg(a), b), bag.Neg(join(on(0, 0), a, b)); !same(got, want) {
				t.Fatalf("%s negated with %s: %s, not %s", shown(a), shown(b), shown(got), shown(want))
			}
		}
	}
}

// P10.3: Pick distributes over bag.Plus.
func TestPickOfSums(t *testing.T) {
	bags := smallBags(2, fewRows(), 1, -1, 5)
	for _, a := range bags {
		for _, b := range bags {
			for _, l := range [][]int{nil, {0}, {1}, {1, 0, 1}} {
				if got, want := Pick(pick(l...), bag.Plus(a, b)), bag.Plus(Pick(pick(l...), a), Pick(pick(l...), b)); !same(got, want) {
					t.Fatalf("%v of %s plus %s: %s, not %s", l, shown(a), shown(b), shown(got), shown(want))
				}
			}
		}
	}
}

// P1: no call panics, whatever it is given, and what it answers is a valid bag, and an empty one beside an error.
func TestAnything(t *testing.T) {
	bags := append(invalidBags(), nil, held("()"), held("(null) (1)*-5 (1, 1) (true) ('x')"), pairsOf(1, 10001), one(equal(num(1), 40), billion), one(make(api.Row, 100000), 1))
	numbers := []int{math.MinInt, -41, -1, 0, 1, 39, 40, 41, math.MaxInt}
	var views []api.View
	for i, n := range numbers {
		for op := -1; op <= api.EOps; op++ {
			v := api.View{With: "w", On: [2]int{n, numbers[(i+op+10)%len(numbers)]}, Pick: []int{n, op}, Where: api.Expr{{Op: api.ECol, N: n}, {Op: op, N: n, V: api.Value{Kind: n, N: n, S: "s"}}}}
			views = append(views, v)
		}
		views = append(views, api.View{With: "\x00", On: [2]int{n, n}, Pick: slices.Repeat([]int{n}, 10000), Where: make(api.Expr, 10000)})
	}
	views = append(views, api.View{}, api.View{With: "w", Pick: make([]int, 40)}, api.View{Pick: make([]int, 41)})
	check := func(what string, b api.Bag, bad api.Errno) {
		if bad != api.OK && len(b) != 0 || !bag.May(b) {
			t.Fatalf("%s: %s, error %d", what, shown(b), bad)
		}
	}
	for i, v := range views {
		for j, a := range bags {
			c := bags[(i+j)%len(bags)]
			p, bad := Product(v, a, c)
			check(fmt.Sprint("product of view ", i), p, bad)
			w, bad := Where(v, a)
			check(fmt.Sprint("where of view ", i), w, bad)
			check(fmt.Sprint("pick of view ", i), Pick(v, a), api.OK)
		}
	}
}

// behind is a bag as b, with room behind its list and behind each of its rows that must not be written into.
func behind(b api.Bag) api.Bag {
	l := make(api.Bag, 0, len(b)+3)
	for _, c := range b {
		r := append(make(api.Row, 0, len(c.Row)+3), c.Row...)
		l = append(l, api.Count{Row: r, N: c.N})
	}
	return l
}

// whole is b with all the room behind it and behind its rows.
func whole(b api.Bag) api.Bag {
	b = b[:cap(b)]
	for i := range b {
		b[i].Row = b[i].Row[:cap(b[i].Row)]
	}
	return b
}

// R4: what is given stays as it is, and so does the room behind it.
func TestKept(t *testing.T) {
	v := where("c0 c0 =")
	v.With, v.Pick = "w", []int{1, 0, 1}
	for _, s := range [][2]string{
		{"(1, 5)*2 (1, 6) (2, 5)", "(1) (1, 1)*-1 (2, 8)"}, {"(2) (1)", "(2)"}, {"", "(1)"}, {"(1)", ""}, {"(1)*1000000000", "(1)*2"}, {"(null, 1) (1, null)", "(null) (1)"}, {"(1, 9) ('a')", "()"},
	} {
		for _, with := range []string{"", "w"} {
			v.With = with
			a, b := behind(held(s[0])), behind(held(s[1]))
			where, picks := slices.Clone(v.Where), append(make([]int, 0, 6), v.Pick...)
			v.Pick = picks
			first, _ := Product(v, a, b)
			if _, bad := Where(v, a); bad != api.OK {
				t.Error(s, bad)
			}
			Pick(v, a)
			second, _ := Product(v, a, b)
			if !slices.Equal(v.Where, where) || !slices.Equal(picks[:6], []int{1, 0, 1, 0, 0, 0}) || !same(first, second) {
				t.Errorf("%v: %v, %v, %s, %s", s, v.Where, picks, shown(first), shown(second))
			}
			if !same(whole(a), whole(behind(held(s[0])))) || !same(whole(b), whole(behind(held(s[1])))) {
				t.Errorf("%v: now %v and %v", s, a, b)
			}
		}
	}
}

// scribbled writes over all that b holds, and over what is behind its rows.
func scribbled(b api.Bag) {
	for i := range whole(b) {
		b = b[:cap(b)]
		for j := range b[i].Row {
			b[i].Row[j] = text("scribble")
		}
		b[i] = api.Count{Row: api.Row{text("scribble")}, N: -77}
	}
}

// R4: what is answered shares no memory with what was given, nor do two rows of one answer.
func TestNewMemory(t *testing.T) {
	v := where("c0 c0 =")
	v.Pick = []int{0, 1}
	calls := map[string]func(a, b api.Bag) api.Bag{
		"join":    func(a, b api.Bag) api.Bag { l, _ := Product(on(0, 0), a, b); return l },
		"no join": func(a, b api.Bag) api.Bag { l, _ := Product(api.View{}, a, b); return l },
		"where":   func(a, _ api.Bag) api.Bag { l, _ := Where(v, a); return l },
		"all":     func(a, _ api.Bag) api.Bag { l, _ := Where(api.View{}, a); return l },
		"pick":    func(a, _ api.Bag) api.Bag { return Pick(v, a) },
	}
	for name, call := range calls {
		for _, s := range [][2]string{{"(1, 5)*2 (1, 6) (2, 5)", "(1, 1) (1, 2)*-1 (2, 8)"}, {"(1, 1)", "(1, 1)"}, {"(1, 1) (1, 1, 2)", "(1, 1)"}} {
			a, b := behind(held(s[0])), behind(held(s[1]))
			got := call(a, b)
			want := copied(got)
			if len(got) == 0 {
				t.Fatalf("%s of %v: nothing", name, s)
			}
			scribbled(a)
			scribbled(b)
			if !same(got, want) {
				t.Errorf("%s of %v shares memory: %s, not %s", name, s, shown(got), shown(want))
			}
			// And the other way round: an answer that is written over changes nothing that was given.
			a, b = behind(held(s[0])), behind(held(s[1]))
			scribbled(call(a, b))
			if !same(a, held(s[0])) || !same(b, held(s[1])) {
				t.Errorf("%s of %v: what was given changed with the answer", name, s)
			}
			// Rows apart: one that is written over, and over what is behind it, changes no other.
			got = call(behind(held(s[0])), behind(held(s[1])))
			for i := range got {
				r := got[i].Row
				for j := range r[:cap(r)] {
					r[:cap(r)][j] = text("scribble")
				}
				for k := range got {
					if k > i && !slices.Equal(got[k].Row, want[k].Row) {
						t.Errorf("%s of %v: rows %d and %d share memory", name, s, i, k)
					}
				}
			}
		}
	}
}
