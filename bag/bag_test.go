package bag

import (
	"math"
	"slices"
	"strconv"
	"strings"
	"testing"

	"levee/api"
	"levee/key"
	"levee/row"
)

const billion = 1000000000

var (
	null = api.Value{}
	no   = api.Value{Kind: api.Bool}
	yes  = api.Value{Kind: api.Bool, N: 1}
)

func num(n int) api.Value     { return api.Value{Kind: api.Int, N: n} }
func text(s string) api.Value { return api.Value{Kind: api.Text, S: s} }

func one(n int) api.Row { return api.Row{num(n)} }

func count(r api.Row, n int) api.Count { return api.Count{Row: r, N: n} }

// ones is a bag of rows of one number each: numbers and counts in turn.
func ones(l ...int) api.Bag {
	var b api.Bag
	for i := 0; i < len(l); i += 2 {
		b = append(b, count(one(l[i]), l[i+1]))
	}
	return b
}

// rising holds valid rows in order: the empty one, those of which one begins as the other, those at the edges of what is valid.
func rising() []api.Row {
	return []api.Row{
		nil,
		{null}, {null, null}, {null, num(5)},
		{no}, {yes}, {yes, null},
		{num(math.MinInt)}, {num(-10)}, {num(-9)}, {num(1)}, {num(1), num(2), num(9)}, {num(1), num(5)}, {num(1), text("a")}, {num(2)}, {num(10)}, {num(math.MaxInt)},
		{text("")}, {text("\x00")}, {text("B")}, {text("a")}, {text("a"), null}, {text("a\x00")}, {text("aa")}, {text(strings.Repeat("x", 1000))},
		slices.Repeat(api.Row{text("\xff")}, 40),
	}
}

// invalidRows holds rows that are not valid.
func invalidRows() []api.Row {
	return []api.Row{
		{{N: 1}}, {{S: "a"}}, {{Kind: api.Bool, N: 2}}, {{Kind: api.Int, S: "a"}}, {{Kind: api.Text, N: 1}},
		{text(strings.Repeat("x", 1001))}, {{Kind: api.Kinds}}, {{Kind: -1}}, {{Kind: math.MaxInt}}, {{Kind: math.MinInt}},
		{num(1), {Kind: 8}}, {{Kind: 8}, num(1)},
		make(api.Row, 41), slices.Repeat(api.Row{num(1)}, 41), make(api.Row, 10000),
	}
}

// validBags holds bags in which each edge of what is valid is there.
func validBags() []api.Bag {
	all := api.Bag{}
	for i, r := range rising() {
		all = append(all, count(r, i-100))
	}
	return []api.Bag{
		nil, {}, {count(nil, 1)}, {count(api.Row{}, -1)}, {count(nil, 3), count(api.Row{null}, 2)},
		ones(1, 1), ones(1, -1), ones(1, 2), ones(1, billion), ones(1, -billion), ones(1, billion-1), ones(1, 1-billion),
		ones(1, 1, 2, 1), ones(1, -1, 2, 1), ones(1, billion, 2, -billion, 3, billion), ones(-2, 5, -1, -5, 0, 7),
		{count(make(api.Row, 40), 1)}, {count(slices.Repeat(api.Row{num(1)}, 40), -3)},
		all,
	}
}

// invalidBags holds bags that have one fault each, in the first, a middle and the last place.
func invalidBags() []api.Bag {
	wrong := []api.Count{}
	for _, n := range []int{0, billion + 1, -billion - 1, 2 * billion, math.MaxInt, math.MaxInt - 1, math.MinInt, math.MinInt + 1, math.MaxInt32, math.MinInt32, 1 << 32, 1<<32 + 1, 1 << 63 >> 1} {
		wrong = append(wrong, count(one(5), n))
	}
	for _, r := range invalidRows() {
		wrong = append(wrong, count(r, 1), count(r, -1))
	}
	out := []api.Bag{
		ones(2, 1, 1, 1), ones(1, 1, 1, 1), ones(1, 1, 1, -1), ones(1, 1, 1, 2), ones(1, 1, 2, 1, 2, 1), ones(1, 1, 3, 1, 2, 1), ones(2, 1, 1, 1, 3, 1), ones(3, 1, 2, 1, 1, 1), ones(1, 1, 2, 1, 1, 1),
		{count(nil, 1), count(nil, 1)}, {count(nil, 1), count(api.Row{}, 1)}, {count(one(1), 1), count(nil, 1)},
		{count(api.Row{num(1), null}, 1), count(one(1), 1)}, {count(api.Row{text("a")}, 1), count(one(1), 1)}, {count(one(-9), 1), count(one(-10), 1)},
		{count(api.Row{text("a")}, 1), count(api.Row{text("B")}, 1)},
		make(api.Bag, 1), make(api.Bag, 3),
	}
	for _, c := range wrong {
		out = append(out, api.Bag{c}, slotted(c, count(one(9), 1)), slotted(c, count(one(1), 1)), slotted(c, count(one(1), 1), count(one(9), 1)))
	}
	return out
}

// slotted puts c where its row belongs among others that rise, so that the order is no fault.
func slotted(c api.Count, others ...api.Count) api.Bag {
	b := append(api.Bag{c}, others...)
	slices.SortStableFunc(b, func(x, y api.Count) int { return key.Compare(x.Row, y.Row) })
	return b
}

func sameRows(a, b []api.Row) bool {
	return slices.EqualFunc(a, b, func(x, y api.Row) bool { return slices.Equal(x, y) })
}

func same(a, b api.Bag) bool {
	return slices.EqualFunc(a, b, func(x, y api.Count) bool { return x.N == y.N && slices.Equal(x.Row, y.Row) })
}

func copied(b api.Bag) api.Bag {
	var out api.Bag
	for _, c := range b {
		out = append(out, count(slices.Clone(c.Row), c.N))
	}
	return out
}

func copiedRows(l []api.Row) []api.Row {
	var out []api.Row
	for _, r := range l {
		out = append(out, slices.Clone(r))
	}
	return out
}

// Section Words: bags that are valid, and bags that are not.
func TestMay(t *testing.T) {
	for i, b := range validBags() {
		if !May(b) {
			t.Errorf("valid bag %d is not valid", i)
		}
	}
	for i, b := range invalidBags() {
		if May(b) {
			t.Errorf("invalid bag %d is valid: %#v", i, b)
		}
	}
}

// Section Words: each pair of rows is a bag in the one order alone in which it rises.
func TestMayOrder(t *testing.T) {
	for i, a := range rising() {
		for j, b := range rising() {
			if got, want := May(api.Bag{count(a, 1), count(b, -1)}), i < j; got != want {
				t.Errorf("rows %d and %d: %v, want %v", i, j, got, want)
			}
		}
	}
}

// Section Words: which counts may be.
func TestMayCounts(t *testing.T) {
	for _, c := range []struct {
		n    int
		want bool
	}{
		{1, true}, {-1, true}, {2, true}, {-2, true}, {100000, true}, {100001, true},
		{999999999, true}, {1000000000, true}, {-999999999, true}, {-1000000000, true},
		{0, false}, {1000000001, false}, {-1000000001, false}, {math.MaxInt, false}, {math.MinInt, false},
	} {
		if got := May(ones(1, c.n)); got != c.want {
			t.Errorf("count %d: %v, want %v", c.n, got, c.want)
		}
	}
}

// P5.1: cases written out by hand.
func TestOfCases(t *testing.T) {
	for i, c := range []struct {
		l    []api.Row
		want api.Bag
	}{
		{nil, nil},
		{[]api.Row{}, nil},
		{[]api.Row{nil}, api.Bag{count(nil, 1)}},
		{[]api.Row{nil, {}, nil}, api.Bag{count(nil, 3)}},
		{[]api.Row{one(1)}, ones(1, 1)},
		{[]api.Row{one(1), one(1)}, ones(1, 2)},
		{[]api.Row{one(1), one(2)}, ones(1, 1, 2, 1)},
		{[]api.Row{one(2), one(1)}, ones(1, 1, 2, 1)},
		{[]api.Row{one(2), one(1), one(2)}, ones(1, 1, 2, 2)},
		{[]api.Row{one(1), one(2), one(1), one(2), one(1)}, ones(1, 3, 2, 2)},
		{[]api.Row{one(10), one(9), one(-10), one(-9)}, ones(-10, 1, -9, 1, 9, 1, 10, 1)},
		{[]api.Row{{num(1), null}, one(1), nil, one(1)}, api.Bag{count(nil, 1), count(one(1), 2), count(api.Row{num(1), null}, 1)}},
		{[]api.Row{{text("a")}, {num(5)}, {yes}, {null}, {yes}}, api.Bag{count(api.Row{null}, 1), count(api.Row{yes}, 2), count(one(5), 1), count(api.Row{text("a")}, 1)}},
		{[]api.Row{make(api.Row, 40), make(api.Row, 40)}, api.Bag{count(make(api.Row, 40), 2)}},
	} {
		if got := Of(c.l); !same(got, c.want) {
			t.Errorf("case %d: %#v, want %#v", i, got, c.want)
		}
	}
	if got := Text(Of([]api.Row{one(1), one(1)})); got != "(1)*2" {
		t.Error("the chapter's example:", got)
	}
}

// P5.1: one row that is not valid, wherever it stands and however often, leaves nothing of the others.
func TestOfInvalid(t *testing.T) {
	for i, wrong := range invalidRows() {
		for size := 1; size < 4; size++ {
			for at := range size {
				l := slices.Repeat([]api.Row{one(1)}, size)
				l[at] = wrong
				if got := Of(l); len(got) != 0 {
					t.Errorf("row %d at %d of %d: %#v", i, at, size, got)
				}
			}
		}
		if got := Of([]api.Row{wrong, wrong, nil}); len(got) != 0 {
			t.Errorf("row %d twice: %#v", i, got)
		}
	}
}

// P5.1: every list of up to five of four rows is the bag that counts them, and Get tells their counts.
func TestOfAll(t *testing.T) {
	rows := []api.Row{nil, {null}, one(1), {num(1), null}}
	var each func(l []api.Row, counts [4]int)
	each = func(l []api.Row, counts [4]int) {
		var want api.Bag
		for i, n := range counts {
			if n > 0 {
				want = append(want, count(rows[i], n))
			}
		}
		got := Of(l)
		if !same(got, want) || !May(got) {
			t.Fatalf("%#v: %#v", l, got)
		}
		for i, n := range counts {
			if m := Get(got, rows[i]); m != n {
				t.Fatalf("row %d of %#v: %d, want %d", i, l, m, n)
			}
		}
		if len(l) == 5 {
			return
		}
		for i, r := range rows {
			more := counts
			more[i]++
			each(append(slices.Clone(l), r), more)
		}
	}
	each(nil, [4]int{})
}

// P5.1: many rows, each of them as often as its place says, laid out in many orders, are the same bag.
func TestOfOrders(t *testing.T) {
	var want api.Bag
	var rows []api.Row
	for i, r := range rising() {
		want = append(want, count(r, i%4+1))
		for range i%4 + 1 {
			rows = append(rows, r)
		}
	}
	// Steps through a prime number of places reach each place once.
	const prime = 67
	last := len(want) - 1
	for len(rows) < prime {
		rows = append(rows, want[last].Row)
		want[last].N++
	}
	if len(rows) != prime {
		t.Fatal(len(rows), "rows")
	}
	for step := 1; step < prime; step++ {
		l := make([]api.Row, prime)
		for i, r := range rows {
			l[i*step%prime] = r
		}
		if got := Of(l); !same(got, want) {
			t.Fatalf("steps of %d: %#v", step, got)
		}
	}
}

// P5.1: each row of a bag is found with its count, none that it does not have is found; bags of every length.
func TestGet(t *testing.T) {
	rows := rising()
	for size := range len(rows) + 1 {
		var b api.Bag
		for i := range size {
			// Counts that differ tell which row was found.
			b = append(b, count(rows[i*len(rows)/size], 3*i-7-i%2))
		}
		for i, r := range rows {
			want := 0
			for _, c := range b {
				if slices.Equal(c.Row, r) {
					want = c.N
				}
			}
			if got := Get(b, r); got != want {
				t.Errorf("row %d of a bag of %d: %d, want %d", i, size, got, want)
			}
		}
	}
}

// P5.1: cases of Get written out by hand.
func TestGetCases(t *testing.T) {
	mixed := api.Bag{count(nil, 4), count(one(1), -2), count(api.Row{num(1), null}, billion), count(api.Row{num(1), num(2)}, -billion), count(api.Row{text("a")}, 1)}
	for i, c := range []struct {
		b    api.Bag
		r    api.Row
		want int
	}{
		{nil, nil, 0}, {nil, one(1), 0}, {api.Bag{}, api.Row{}, 0},
		{ones(1, 1), one(1), 1}, {ones(1, 1), one(0), 0}, {ones(1, 1), one(2), 0}, {ones(1, 1), nil, 0},
		{ones(1, 1, 3, 1), one(2), 0},
		{mixed, nil, 4}, {mixed, api.Row{}, 4}, {mixed, one(1), -2}, {mixed, api.Row{num(1), null}, billion}, {mixed, api.Row{num(1), num(2)}, -billion},
		{mixed, api.Row{text("a")}, 1}, {mixed, api.Row{text("A")}, 0}, {mixed, api.Row{text("a"), null}, 0}, {mixed, api.Row{num(1), null, null}, 0}, {mixed, api.Row{null}, 0},
		{api.Bag{count(api.Row{null}, 2)}, nil, 0}, {api.Bag{count(api.Row{null}, 2)}, api.Row{no}, 0}, {api.Bag{count(api.Row{no}, 2)}, one(0), 0},
	} {
		if got := Get(c.b, c.r); got != c.want {
			t.Errorf("case %d: %d, want %d", i, got, c.want)
		}
	}
}

// P5.1: a row that is not valid is in no bag; a bag that is not valid has nothing, not even the rows that stand in it.
func TestGetInvalid(t *testing.T) {
	for i, b := range validBags() {
		for j, r := range invalidRows() {
			if got := Get(b, r); got != 0 {
				t.Errorf("row %d of bag %d: %d", j, i, got)
			}
		}
	}
	for i, b := range invalidBags() {
		for _, c := range append(b, count(nil, 0), count(one(1), 0)) {
			if got := Get(b, c.Row); got != 0 {
				t.Errorf("invalid bag %d: %d", i, got)
			}
		}
	}
}

// P5.1: sums written out by hand.
func TestPlusCases(t *testing.T) {
	for i, c := range []struct {
		l    []api.Bag
		want api.Bag
	}{
		{nil, nil},
		{[]api.Bag{}, nil},
		{[]api.Bag{nil}, nil},
		{[]api.Bag{nil, {}, nil}, nil},
		{[]api.Bag{ones(1, 2, 3, -4)}, ones(1, 2, 3, -4)},
		{[]api.Bag{ones(1, 1), nil}, ones(1, 1)},
		{[]api.Bag{nil, ones(1, 1)}, ones(1, 1)},
		{[]api.Bag{ones(1, 1), ones(1, 1)}, ones(1, 2)},
		{[]api.Bag{ones(1, 1), ones(2, 1)}, ones(1, 1, 2, 1)},
		{[]api.Bag{ones(2, 1), ones(1, 1)}, ones(1, 1, 2, 1)},
		{[]api.Bag{ones(1, 1, 3, 3), ones(2, 2, 4, 4)}, ones(1, 1, 2, 2, 3, 3, 4, 4)},
		{[]api.Bag{ones(1, 1, 2, 2), ones(2, 3, 3, 4)}, ones(1, 1, 2, 5, 3, 4)},
		{[]api.Bag{ones(1, 1, 2, 2), ones(1, -1, 3, -1)}, ones(2, 2, 3, -1)},
		{[]api.Bag{ones(1, 1), ones(1, -1)}, nil},
		{[]api.Bag{ones(1, 5, 2, -5), ones(1, -5, 2, 5)}, nil},
		{[]api.Bag{ones(1, 5, 2, -5, 3, 1), ones(1, -5, 2, 5)}, ones(3, 1)},
		{[]api.Bag{ones(1, 1), ones(1, -2), ones(1, 1)}, nil},
		{[]api.Bag{ones(1, 1), ones(1, -2), ones(1, 2)}, ones(1, 1)},
		{[]api.Bag{ones(1, 1), ones(1, -2)}, ones(1, -1)},
		{[]api.Bag{{count(nil, 1)}, {count(api.Row{}, 2)}}, api.Bag{count(nil, 3)}},
		{[]api.Bag{{count(nil, 1)}, {count(nil, -1), count(api.Row{null}, 1)}}, api.Bag{count(api.Row{null}, 1)}},
		{[]api.Bag{{count(api.Row{num(1), null}, 1)}, ones(1, 1)}, api.Bag{count(one(1), 1), count(api.Row{num(1), null}, 1)}},
		{[]api.Bag{{count(api.Row{text("a")}, 1)}, {count(api.Row{yes}, -1)}, ones(7, 7)}, api.Bag{count(api.Row{yes}, -1), count(one(7), 7), count(api.Row{text("a")}, 1)}},
	} {
		if got := Plus(c.l...); !same(got, c.want) {
			t.Errorf("case %d: %#v, want %#v", i, got, c.want)
		}
	}
	if got := Plus(); len(got) != 0 {
		t.Error("no bags:", got)
	}
	if got := Plus(ones(1, 1), ones(2, 1), ones(1, 1)); !same(got, ones(1, 2, 2, 1)) {
		t.Error("three bags:", got)
	}
}

// P5.1: the sum of all bags alone decides whether it is too great.
func TestPlusBounds(t *testing.T) {
	for i, c := range []struct {
		counts []int
		want   int // 0: nothing is left
	}{
		{[]int{billion}, billion},
		{[]int{-billion}, -billion},
		{[]int{billion - 1, 1}, billion},
		{[]int{billion, 1}, 0},
		{[]int{1, billion}, 0},
		{[]int{billion, -1}, billion - 1},
		{[]int{1 - billion, -1}, -billion},
		{[]int{-billion, -1}, 0},
		{[]int{-1, -billion}, 0},
		{[]int{-billion, 1}, 1 - billion},
		{[]int{billion, billion}, 0},
		{[]int{-billion, -billion}, 0},
		{[]int{billion, -billion}, 0},
		{[]int{500000000, 500000000}, billion},
		{[]int{500000000, 500000001}, 0},
		{[]int{-500000000, -500000001}, 0},
		{[]int{billion, billion, -billion}, billion},
		{[]int{billion, billion, -billion, -billion, -1}, -1},
		{[]int{-billion, -billion, billion}, -billion},
		{[]int{billion, 1, -1}, billion},
		{[]int{1, billion, -1}, billion},
		{[]int{billion, 1, -2}, billion - 1},
		{[]int{billion, billion, billion, -billion, -billion, 1}, 0},
		{slices.Repeat([]int{billion}, 10), 0},
		{append(slices.Repeat([]int{billion}, 10000), slices.Repeat([]int{-billion}, 9999)...), billion},
		{append(slices.Repeat([]int{-billion}, 10000), slices.Repeat([]int{billion}, 10001)...), billion},
	} {
		var l []api.Bag
		for _, n := range c.counts {
			l = append(l, ones(1, n))
		}
		var want api.Bag
		if c.want != 0 {
			want = ones(1, c.want)
		}
		if got := Plus(l...); !same(got, want) {
			t.Errorf("case %d: %#v, want %#v", i, got, want)
		}
		if got := Plus(append(l, ones(0, 1, 2, 1))...); c.want != 0 && !same(got, ones(0, 1, 1, c.want, 2, 1)) {
			t.Errorf("case %d, between others: %#v", i, got)
		}
	}
}

// P5.1: one sum that is too great, wherever its row stands, leaves nothing of the others, also where rows ahead of it go.
func TestPlusTooGreat(t *testing.T) {
	for size := 1; size < 6; size++ {
		for at := range size {
			var a, b api.Bag
			for i := range size {
				a, b = append(a, count(one(i), 1)), append(b, count(one(i), i%3-1))
			}
			a[at].N, b[at].N = billion, 1
			b = slices.DeleteFunc(b, func(c api.Count) bool { return c.N == 0 })
			if got := Plus(a, b); len(got) != 0 {
				t.Errorf("row %d of %d: %#v", at, size, got)
			}
			if got := Plus(Neg(a), nil, Neg(b)); len(got) != 0 {
				t.Errorf("row %d of %d, negated: %#v", at, size, got)
			}
		}
	}
}

// P5.1: one bag that is not valid, wherever it stands, leaves nothing of the others.
func TestPlusInvalid(t *testing.T) {
	b := ones(5, 1, 7, 2)
	for i, wrong := range invalidBags() {
		for j, l := range [][]api.Bag{{wrong}, {wrong, b}, {b, wrong}, {b, wrong, b}, {nil, wrong}, {wrong, wrong}, {wrong, Neg(b), b}} {
			if got := Plus(l...); len(got) != 0 {
				t.Errorf("bag %d, list %d: %#v", i, j, got)
			}
		}
	}
}

// sum is P5.1's Plus word for word, of bags that are valid.
func sum(l ...api.Bag) api.Bag {
	counts := map[string]int{}
	var rows []api.Row
	for _, b := range l {
		for _, c := range b {
			counts[key.Encode(c.Row)] += c.N
			rows = append(rows, c.Row)
		}
	}
	var out api.Bag
	for _, r := range row.Sort(rows) {
		n := counts[key.Encode(r)]
		if n > billion || n < -billion {
			return nil
		}
		if n != 0 && (len(out) == 0 || !slices.Equal(out[len(out)-1].Row, r)) {
			out = append(out, count(r, n))
		}
	}
	return out
}

// small returns every bag of three rows of which each has one of these counts, or is not there.
func small(counts ...int) []api.Bag {
	out := []api.Bag{nil}
	for _, r := range []api.Row{nil, one(1), {num(1), null}} {
		for _, b := range slices.Clone(out) {
			for _, n := range counts {
				out = append(out, append(slices.Clone(b), count(r, n)))
			}
		}
	}
	return out
}

// P5.1, P5.3: every sum of two small bags, in both orders.
func TestPlusPairs(t *testing.T) {
	bags := append(small(-billion, -2, -1, 1, 2, billion), validBags()...)
	for _, a := range bags {
		for _, b := range bags {
			got := Plus(a, b)
			if want := sum(a, b); !same(got, want) || !May(got) {
				t.Fatalf("%s + %s: %s, want %s", Text(a), Text(b), Text(got), Text(want))
			}
			if other := Plus(b, a); !same(other, got) {
				t.Fatalf("%s + %s: %s, the other way %s", Text(a), Text(b), Text(got), Text(other))
			}
		}
	}
}

// P5.1, P5.3: sums of three small bags: all at once, the first two first, the last two first.
func TestPlusTriples(t *testing.T) {
	bags := small(-1, 1, 2)
	for _, a := range bags {
		for _, b := range bags {
			for _, c := range bags {
				got := Plus(a, b, c)
				if want := sum(a, b, c); !same(got, want) {
					t.Fatalf("%s + %s + %s: %s, want %s", Text(a), Text(b), Text(c), Text(got), Text(want))
				}
				if !same(Plus(Plus(a, b), c), got) || !same(Plus(a, Plus(b, c)), got) || !same(Plus(c, a, b), got) {
					t.Fatalf("%s, %s and %s: another order, another sum", Text(a), Text(b), Text(c))
				}
			}
		}
	}
}

// P5.1, P5.3: every order of bags whose sums of some are too great, but not that of all.
func TestPlusOrders(t *testing.T) {
	l := []api.Bag{ones(1, billion, 2, 1), ones(1, billion, 2, -billion), ones(1, -billion, 2, -billion), ones(1, -1, 2, billion), ones(2, billion, 3, 7), nil}
	want := ones(1, billion-1, 2, 1, 3, 7)
	var place func(at int)
	place = func(at int) {
		if at == len(l) {
			if got := Plus(l...); !same(got, want) {
				t.Fatalf("%#v: %#v", l, got)
			}
			return
		}
		for i := at; i < len(l); i++ {
			l[at], l[i] = l[i], l[at]
			place(at + 1)
			l[at], l[i] = l[i], l[at]
		}
	}
	place(0)
}

// P5.1, P5.3: negation, what it is with the sum, and twice.
func TestNeg(t *testing.T) {
	for i, c := range []struct{ b, want api.Bag }{
		{nil, nil},
		{api.Bag{}, nil},
		{ones(1, 1), ones(1, -1)},
		{ones(1, -1), ones(1, 1)},
		{ones(1, billion), ones(1, -billion)},
		{ones(1, -billion), ones(1, billion)},
		{ones(1, 2, 2, -3, 3, 1), ones(1, -2, 2, 3, 3, -1)},
		{api.Bag{count(nil, 5), count(api.Row{null}, -5)}, api.Bag{count(nil, -5), count(api.Row{null}, 5)}},
	} {
		if got := Neg(c.b); !same(got, c.want) {
			t.Errorf("case %d: %#v, want %#v", i, got, c.want)
		}
	}
	for i, b := range append(validBags(), small(-billion, -1, 1, billion)...) {
		negated := Neg(b)
		if !May(negated) || len(negated) != len(b) || !same(Neg(negated), b) {
			t.Errorf("bag %d: %#v", i, negated)
		}
		if got := Plus(b, negated); len(got) != 0 {
			t.Errorf("bag %d and its negation: %#v", i, got)
		}
		for _, c := range b {
			if got := Get(negated, c.Row); got != -c.N {
				t.Errorf("bag %d: %d for %d", i, got, c.N)
			}
		}
	}
	for i, b := range invalidBags() {
		if got := Neg(b); len(got) != 0 {
			t.Errorf("invalid bag %d: %#v", i, got)
		}
	}
}

// P5.2: rows of bags, written out by hand.
func TestRowsCases(t *testing.T) {
	for i, c := range []struct {
		b    api.Bag
		want []api.Row
	}{
		{nil, nil},
		{api.Bag{}, nil},
		{api.Bag{count(nil, 1)}, []api.Row{nil}},
		{api.Bag{count(nil, 2), count(api.Row{null}, 1)}, []api.Row{nil, nil, {null}}},
		{ones(1, 1), []api.Row{one(1)}},
		{ones(1, 3), []api.Row{one(1), one(1), one(1)}},
		{ones(-1, 2, 1, 1, 7, 2), []api.Row{one(-1), one(-1), one(1), one(7), one(7)}},
		{api.Bag{count(one(1), 1), count(api.Row{num(1), null}, 1)}, []api.Row{one(1), {num(1), null}}},
	} {
		if got, ok := Rows(c.b); !ok || !sameRows(got, c.want) {
			t.Errorf("case %d: %#v %v, want %#v", i, got, ok, c.want)
		}
	}
}

// P5.2: how many rows may be listed, of one row, of a few, of many.
func TestRowsMany(t *testing.T) {
	var each, more api.Bag
	for i := range 100001 {
		more = append(more, count(one(i), 1))
	}
	each = more[:100000]
	for i, c := range []struct {
		b    api.Bag
		want bool
	}{
		{ones(1, 99999), true}, {ones(1, 100000), true}, {ones(1, 100001), false}, {ones(1, billion), false},
		{ones(1, 50000, 2, 50000), true}, {ones(1, 50000, 2, 50001), false}, {ones(1, 50001, 2, 50000), false},
		{ones(1, 99998, 2, 1, 3, 1), true}, {ones(1, 99999, 2, 1, 3, 1), false}, {ones(1, 1, 2, 1, 3, 99999), false},
		{ones(1, 100000, 2, 1), false}, {ones(1, 1, 2, 100000), false}, {ones(1, 1, 2, billion, 3, 1), false},
		{each, true}, {more, false},
	} {
		got, ok := Rows(c.b)
		want := 0
		for _, x := range c.b {
			want += x.N
		}
		if !c.want {
			want = 0
		}
		if ok != c.want || len(got) != want {
			t.Errorf("case %d: %d rows, %v, want %d, %v", i, len(got), ok, want, c.want)
		}
		if ok && !same(Of(got), c.b) {
			t.Errorf("case %d: they are other rows", i)
		}
	}
}

// P5.2: a count that is negative, wherever it is and whatever the sum of all counts is, leaves no rows.
func TestRowsNegative(t *testing.T) {
	for _, n := range []int{-1, -2, -100000, -billion} {
		for _, rest := range []int{1, 5, 100000, 100001, billion} {
			for i, b := range []api.Bag{ones(1, n), ones(1, n, 2, rest), ones(1, rest, 2, n), ones(1, rest, 2, n, 3, rest), ones(1, n, 2, n)} {
				if got, ok := Rows(b); ok || len(got) != 0 {
					t.Errorf("%d beside %d, bag %d: %d rows, %v", n, rest, i, len(got), ok)
				}
			}
		}
	}
}

// P5.2: bags that are not valid have neither rows nor a print.
func TestRowsTextInvalid(t *testing.T) {
	for i, b := range invalidBags() {
		if got, ok := Rows(b); ok || len(got) != 0 {
			t.Errorf("invalid bag %d: rows %#v, %v", i, got, ok)
		}
		if got := Text(b); got != "" {
			t.Errorf("invalid bag %d: text %q", i, got)
		}
	}
}

// P5.1, P5.2: rows that make a bag are its rows again, rising.
func TestRowsBack(t *testing.T) {
	for i, b := range append(small(1, 2, 5), Of(rising())) {
		l, ok := Rows(b)
		if !ok || !same(Of(l), b) || !sameRows(row.Sort(l), l) {
			t.Errorf("bag %d: %#v, %v", i, l, ok)
		}
	}
}

// P5.2: prints.
func TestText(t *testing.T) {
	for i, c := range []struct {
		b    api.Bag
		want string
	}{
		{nil, ""},
		{api.Bag{}, ""},
		{api.Bag{count(nil, 1)}, "()"},
		{api.Bag{count(nil, 2)}, "()*2"},
		{ones(1, 1), "(1)"},
		{ones(1, 2), "(1)*2"},
		{ones(1, -1), "(1)*-1"},
		{ones(1, -2), "(1)*-2"},
		{ones(1, 10), "(1)*10"},
		{ones(1, billion), "(1)*1000000000"},
		{ones(1, -billion), "(1)*-1000000000"},
		{ones(-3, 1, 1, 1), "(-3) (1)"},
		{ones(1, 1, 2, 2, 3, -1, 4, 1), "(1) (2)*2 (3)*-1 (4)"},
		{api.Bag{count(nil, -7), count(api.Row{null, yes}, 1), count(api.Row{num(1), text("it's ")}, 12)}, "()*-7 (null, true) (1, 'it''s ')*12"},
		{api.Bag{count(api.Row{text(") (1")}, 1), count(api.Row{text("*2")}, 3)}, "(') (1') ('*2')*3"},
	} {
		if got := Text(c.b); got != c.want {
			t.Errorf("case %d: %q, want %q", i, got, c.want)
		}
	}
}

// R1: many rows, and many bags, are not too much.
func TestLong(t *testing.T) {
	const size = 200000
	falling, alike := make([]api.Row, size), make([]api.Row, size)
	bags := make([]api.Bag, size)
	printed := make([]string, size)
	for i := range size {
		falling[i], alike[i], bags[i] = one(size-1-i), one(i%7), ones(size-1-i, 2)
		printed[i] = "(" + strconv.Itoa(i) + ")"
	}
	b := Of(falling)
	if len(b) != size || !May(b) || Text(b) != strings.Join(printed, " ") {
		t.Errorf("a long list: %d rows", len(b))
	}
	if few := Of(alike); len(few) != 7 || Get(few, one(0)) != size/7+1 {
		t.Errorf("a list of rows that are alike: %s", Text(few))
	}
	if got := Plus(bags...); !same(got, Plus(b, b)) || Get(got, one(size/2)) != 2 {
		t.Errorf("many bags: %d rows", len(got))
	}
	if got := Plus(b, Neg(b)); len(got) != 0 {
		t.Errorf("a long bag and its negation: %d rows", len(got))
	}
}

// R4: bags, rows and lists that were given stay as they are, whether they are valid or not.
func TestKeepsArguments(t *testing.T) {
	for i, b := range append(validBags(), invalidBags()...) {
		before := copied(b)
		asked := api.Row{num(1), null}
		May(b)
		Get(b, asked)
		Plus(b)
		Plus(b, b, Neg(b))
		Neg(b)
		Rows(b)
		Text(b)
		if !same(b, before) || !slices.Equal(asked, api.Row{num(1), null}) {
			t.Errorf("bag %d was changed: %#v", i, b)
		}
	}
	l := []api.Row{{text("b"), null}, {num(3), yes}, nil, {num(3)}, {num(3), yes}}
	for _, rows := range [][]api.Row{l, append(copiedRows(l), api.Row{{Kind: 9}})} {
		before := copiedRows(rows)
		Of(rows)
		if !sameRows(rows, before) {
			t.Errorf("rows were changed: %#v", rows)
		}
	}
	bags := []api.Bag{ones(3, 1), ones(2, 1), nil, ones(1, 1, 3, -1)}
	Plus(bags...)
	if !slices.EqualFunc(bags, []api.Bag{ones(3, 1), ones(2, 1), nil, ones(1, 1, 3, -1)}, same) {
		t.Errorf("the list of bags was changed: %#v", bags)
	}
}

// R4: what is behind the end of a list is not written over.
func TestKeepsBehindEnd(t *testing.T) {
	b := ones(1, 1, 3, 3, 5, 5)
	r := api.Row{num(1), num(2), num(3)}
	rows := []api.Row{r[:2], r[:1], r}
	Plus(b[:1], ones(0, 1, 2, 2))
	Plus(b[:1])
	Neg(b[:2])
	Rows(b[:2])
	Of(rows[:2])
	Plus(api.Bag{count(r[:1], 1)}, api.Bag{count(r[:2], 1)})
	if !same(b, ones(1, 1, 3, 3, 5, 5)) || !slices.Equal(r, api.Row{num(1), num(2), num(3)}) || !sameRows(rows, []api.Row{{num(1), num(2)}, {num(1)}, {num(1), num(2), num(3)}}) {
		t.Error("what is behind the end was changed:", b, r, rows)
	}
}

// spoil writes over all that r has, also over the room behind its end.
func spoil(r api.Row) {
	r = r[:cap(r)]
	for i := range r {
		r[i] = text("spoilt")
	}
}

// spoilBag writes over all that b has, and its rows.
func spoilBag(b api.Bag) {
	b = b[:cap(b)]
	for i := range b {
		spoil(b[i].Row)
		b[i] = count(nil, 77)
	}
}

// R4: answers are new memory: to write over one changes neither the arguments nor another row of the answer.
func TestSharesNothing(t *testing.T) {
	b := ones(1, 2, 3, -1)
	spoilBag(Plus(b))
	spoilBag(Plus(b, nil))
	spoilBag(Plus(b, ones(2, 1)))
	spoilBag(Plus(b, b))
	spoilBag(Plus(b, ones(1, -2)))
	spoilBag(Neg(b))
	if !same(b, ones(1, 2, 3, -1)) {
		t.Error("a bag changes with what was made of it:", b)
	}
	rows := []api.Row{one(1), one(2), one(1)}
	spoilBag(Of(rows))
	if !sameRows(rows, []api.Row{one(1), one(2), one(1)}) {
		t.Error("rows change with the bag that was made of them:", rows)
	}
	twice := ones(1, 3)
	l, _ := Rows(twice)
	spoil(l[1])
	if !sameRows(l, []api.Row{one(1), {text("spoilt")}, one(1)}) || !same(twice, ones(1, 3)) {
		t.Error("rows of one answer share memory:", l, twice)
	}
	for i := range l {
		spoil(l[i])
	}
	if !same(twice, ones(1, 3)) {
		t.Error("a bag changes with its rows:", twice)
	}
	shared := api.Row{num(1), num(2)}
	for i, b := range []api.Bag{Of([]api.Row{shared[:1], shared}), Plus(api.Bag{count(shared[:1], 1), count(shared, 1)}), Neg(api.Bag{count(shared[:1], -1), count(shared, -1)})} {
		spoil(b[0].Row)
		if !slices.Equal(b[1].Row, api.Row{num(1), num(2)}) {
			t.Errorf("bag %d: its rows share memory: %#v", i, b)
		}
	}
}

// R4: answers stay as they are when an argument is changed later.
func TestAnswersStay(t *testing.T) {
	b, rows := ones(1, 2), []api.Row{one(1), one(1)}
	sums, negated, made := []api.Bag{Plus(b), Plus(b, nil), Plus(nil, b)}, Neg(b), Of(rows)
	l, _ := Rows(b)
	spoilBag(b)
	for _, r := range rows {
		spoil(r)
	}
	for i, s := range append(sums, made, Neg(negated)) {
		if !same(s, ones(1, 2)) {
			t.Errorf("answer %d changes with its argument: %#v", i, s)
		}
	}
	if !sameRows(l, []api.Row{one(1), one(1)}) {
		t.Error("rows change with their bag:", l)
	}
}
