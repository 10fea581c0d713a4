package row

import (
	"math"
	"slices"
	"strings"
	"testing"

	"levee/api"
	"levee/key"
	"levee/value"
)

var (
	null = api.Value{}
	yes  = api.Value{Kind: api.Bool, N: 1}
	no   = api.Value{Kind: api.Bool}
)

func num(n int) api.Value     { return api.Value{Kind: api.Int, N: n} }
func text(s string) api.Value { return api.Value{Kind: api.Text, S: s} }

func row(l ...api.Value) api.Row { return l }

// valid holds ordinary values, and those at the edges of what is valid.
func valid() []api.Value {
	return row(
		null, no, yes,
		num(math.MinInt), num(-1), num(0), num(1), num(math.MaxInt),
		text(""), text("\x00"), text("'"), text("a"), text("a\x00"), text("aa"), text(", "), text("\xff"),
		text(strings.Repeat("x", 1000)),
	)
}

// invalid holds values that are not valid: each kind with one field beyond its bounds, and kinds that are none.
func invalid() []api.Value {
	return row(
		api.Value{N: 1}, api.Value{N: -1}, api.Value{S: "a"},
		api.Value{Kind: api.Bool, N: 2}, api.Value{Kind: api.Bool, N: -1}, api.Value{Kind: api.Bool, S: "a"},
		api.Value{Kind: api.Int, S: "a"}, api.Value{Kind: api.Int, N: 7, S: "\x00"},
		api.Value{Kind: api.Text, N: 1}, api.Value{Kind: api.Text, N: -1, S: "a"}, text(strings.Repeat("x", 1001)),
		api.Value{Kind: api.Kinds}, api.Value{Kind: 9, N: 1, S: "a"}, api.Value{Kind: -1},
		api.Value{Kind: math.MaxInt}, api.Value{Kind: math.MinInt},
	)
}

func equal(a, b []api.Row) bool {
	return slices.EqualFunc(a, b, func(x, y api.Row) bool { return slices.Equal(x, y) })
}

func copied(l []api.Row) []api.Row {
	var out []api.Row
	for _, r := range l {
		out = append(out, slices.Clone(r))
	}
	return out
}

// P4.1: rows of up to 40 valid values are valid.
func TestMayValid(t *testing.T) {
	for i, r := range []api.Row{
		nil, {}, {null}, {num(1), null, text("a")}, {null, null}, valid(),
		make(api.Row, 39), make(api.Row, 40),
		slices.Repeat(row(text(strings.Repeat("\xff", 1000))), 40),
		slices.Repeat(row(num(math.MinInt), yes), 20),
	} {
		if !May(r) {
			t.Errorf("row %d of %d values is not valid", i, len(r))
		}
	}
	for i, v := range valid() {
		if !May(row(v)) || !May(row(num(1), v)) || !May(slices.Repeat(row(v), 40)) {
			t.Errorf("valid value %d: its rows are not valid", i)
		}
	}
}

// P4.1: one value too many, or one that is not valid, wherever it stands, spoils a row.
func TestMayInvalid(t *testing.T) {
	for _, size := range []int{41, 42, 80, 100000} {
		if May(make(api.Row, size)) || May(slices.Repeat(row(num(1)), size)) {
			t.Errorf("%d values are valid", size)
		}
	}
	for i, v := range invalid() {
		for _, size := range []int{1, 2, 3, 40, 41} {
			for at := range size {
				r := slices.Repeat(row(num(1)), size)
				r[at] = v
				if May(r) {
					t.Errorf("invalid value %d at %d of %d: the row is valid", i, at, size)
				}
			}
		}
	}
}

// P4.1: cases written out by hand.
func TestFitsCases(t *testing.T) {
	const none, boolean, integer, letters = api.Null, api.Bool, api.Int, api.Text
	for i, c := range []struct {
		r     api.Row
		kinds []int
		null  []bool
		want  bool
	}{
		{nil, nil, nil, true},
		{row(), []int{}, []bool{}, true},
		{nil, []int{integer}, nil, false},
		{nil, nil, []bool{true}, false},
		{nil, []int{integer}, []bool{true}, false},
		{row(num(1)), []int{integer}, []bool{false}, true},
		{row(num(1)), []int{integer}, []bool{true}, true},
		{row(yes), []int{boolean}, []bool{false}, true},
		{row(text("a")), []int{letters}, []bool{false}, true},
		{row(null), []int{integer}, []bool{true}, true},
		{row(null), []int{integer}, []bool{false}, false},
		{row(num(1)), []int{letters}, []bool{false}, false},
		{row(num(1)), []int{letters}, []bool{true}, false},
		{row(num(1)), []int{boolean}, []bool{true}, false},
		{row(num(0)), []int{none}, []bool{true}, false},
		{row(null), []int{none}, []bool{false}, true},
		{row(null), []int{-1}, []bool{true}, true},
		{row(null), []int{api.Kinds}, []bool{true}, true},
		{row(null), []int{-1}, []bool{false}, false},
		{row(num(1)), []int{api.Kinds}, []bool{true}, false},
		{row(num(1)), []int{math.MinInt}, []bool{true}, false},
		{row(num(1)), nil, nil, false},
		{row(num(1)), nil, []bool{true}, false},
		{row(num(1)), []int{integer}, nil, false},
		{row(num(1)), []int{integer, integer}, []bool{false}, false},
		{row(num(1)), []int{integer}, []bool{false, true}, false},
		{row(num(1)), []int{integer, integer}, []bool{true, true}, false},
		{row(num(1), null), []int{integer}, []bool{true}, false},
		{row(num(1), null), []int{integer, integer}, []bool{true}, false},
		{row(num(1), null), []int{integer}, []bool{true, true}, false},
		{row(num(1), null, text("a")), []int{integer, boolean, letters}, []bool{false, true, false}, true},
		{row(num(1), null, text("a")), []int{integer, boolean, letters}, []bool{true, false, true}, false},
		{row(num(1), null, text("a")), []int{letters, boolean, integer}, []bool{true, true, true}, false},
		{row(num(1), null, text("a")), []int{integer, boolean, integer}, []bool{true, true, true}, false},
		{row(null, num(1)), []int{integer, integer}, []bool{true, false}, true},
		{row(null, num(1)), []int{integer, integer}, []bool{false, true}, false},
		{row(num(1), null), []int{integer, integer}, []bool{true, false}, false},
	} {
		if got := Fits(c.r, c.kinds, c.null); got != c.want {
			t.Errorf("case %d: %v, want %v", i, got, c.want)
		}
	}
}

// fits is P4.1 word for word, for rows whose length is that of kinds and null.
func fits(r api.Row, kinds []int, nulls []bool) bool {
	for i, v := range r {
		if !value.May(v) {
			return false
		}
		if v.Kind == kinds[i] {
			continue
		}
		if v != null || !nulls[i] {
			return false
		}
	}
	return true
}

// P4.1: every pair of values, in columns of every kind, that may be null or not.
func TestFitsAll(t *testing.T) {
	all := append(valid(), invalid()...)
	kinds := []int{-1, api.Null, api.Bool, api.Int, api.Text, api.Kinds, 9, math.MaxInt, math.MinInt}
	bools := []bool{false, true}
	for _, a := range all {
		for _, b := range all {
			for _, k := range kinds {
				for _, l := range kinds {
					for _, m := range bools {
						for _, n := range bools {
							r, ks, ns := row(a, b), []int{k, l}, []bool{m, n}
							if got, want := Fits(r, ks, ns), fits(r, ks, ns); got != want {
								t.Fatalf("%#v in %v, %v: %v, want %v", r, ks, ns, got, want)
							}
						}
					}
				}
			}
		}
	}
}

// P4.1: rows of 40 values fit, those of 41 do not, and each place counts.
func TestFitsWide(t *testing.T) {
	for _, size := range []int{39, 40, 41, 1000} {
		r, kinds, nulls := slices.Repeat(row(num(7)), size), slices.Repeat([]int{api.Int}, size), make([]bool, size)
		if got, want := Fits(r, kinds, nulls), size <= 40; got != want {
			t.Errorf("%d values: %v, want %v", size, got, want)
		}
		for at := range size {
			r[at] = null
			if Fits(r, kinds, nulls) {
				t.Errorf("%d values, null at %d, where it may not be: they fit", size, at)
			}
			nulls[at] = true
			if got, want := Fits(r, kinds, nulls), size <= 40; got != want {
				t.Errorf("%d values, null at %d, where it may be: %v, want %v", size, at, got, want)
			}
			r[at], nulls[at] = num(7), false
		}
	}
}

// P4.2: picks that there are.
func TestPick(t *testing.T) {
	r := row(num(1), null, text("a"), yes, num(1))
	wide := make(api.Row, 100)
	for i := range wide {
		wide[i] = num(i)
	}
	for i, c := range []struct {
		r    api.Row
		cols []int
		want api.Row
	}{
		{nil, nil, nil},
		{nil, []int{}, nil},
		{r, nil, nil},
		{r, []int{}, nil},
		{row(num(5)), []int{0}, row(num(5))},
		{r, []int{0}, row(num(1))},
		{r, []int{4}, row(num(1))},
		{r, []int{1}, row(null)},
		{r, []int{2, 0}, row(text("a"), num(1))},
		{r, []int{0, 2}, row(num(1), text("a"))},
		{r, []int{3, 3}, row(yes, yes)},
		{r, []int{2, 1, 2, 1, 2}, row(text("a"), null, text("a"), null, text("a"))},
		{r, []int{0, 1, 2, 3, 4}, r},
		{r, []int{4, 3, 2, 1, 0}, row(num(1), yes, text("a"), null, num(1))},
		{r, slices.Repeat([]int{2}, 5000), slices.Repeat(row(text("a")), 5000)},
		{wide, []int{99, 0, 41, 40}, row(num(99), num(0), num(41), num(40))},
		{invalid(), []int{2, 0}, row(invalid()[2], invalid()[0])},
	} {
		if got, ok := Pick(c.r, c.cols); !ok || !slices.Equal(got, c.want) {
			t.Errorf("case %d: %#v %v, want %#v", i, got, ok, c.want)
		}
	}
}

// P4.2: one column that does not exist, wherever it is asked for, leaves nothing of the others.
func TestPickNone(t *testing.T) {
	for size := range 5 {
		r := slices.Repeat(row(num(1)), size)
		for _, wrong := range []int{-1, -2, -size - 1, size, size + 1, 1000, math.MaxInt, math.MinInt} {
			lists := [][]int{{wrong}, {wrong, wrong}}
			if size > 0 {
				lists = append(lists, []int{0, wrong}, []int{wrong, 0}, []int{0, wrong, size - 1}, append(make([]int, 1000), wrong))
			}
			for _, cols := range lists {
				if got, ok := Pick(r, cols); ok || len(got) != 0 {
					t.Errorf("column %d among %d of a row of %d values: %#v %v", wrong, len(cols), size, got, ok)
				}
			}
		}
	}
}

// P4.2: joins.
func TestJoin(t *testing.T) {
	a, b := row(num(1), null), row(text("a"))
	for i, c := range []struct {
		l    []api.Row
		want api.Row
	}{
		{nil, nil},
		{[]api.Row{}, nil},
		{[]api.Row{nil}, nil},
		{[]api.Row{nil, {}, nil}, nil},
		{[]api.Row{a}, a},
		{[]api.Row{a, b}, row(num(1), null, text("a"))},
		{[]api.Row{b, a}, row(text("a"), num(1), null)},
		{[]api.Row{a, nil, b, {}}, row(num(1), null, text("a"))},
		{[]api.Row{nil, b, a, b}, row(text("a"), num(1), null, text("a"))},
		{[]api.Row{a, a}, row(num(1), null, num(1), null)},
		{[]api.Row{invalid(), b}, append(invalid(), text("a"))},
		{[]api.Row{make(api.Row, 40), make(api.Row, 40)}, make(api.Row, 80)},
		{slices.Repeat([]api.Row{a}, 10000), slices.Repeat(a, 10000)},
	} {
		if got := Join(c.l...); !slices.Equal(got, c.want) {
			t.Errorf("case %d: %d values, want %d", i, len(got), len(c.want))
		}
	}
	if got := Join(); len(got) != 0 {
		t.Error("no rows:", got)
	}
	if got := Join(a, b, a[:1]); !slices.Equal(got, row(num(1), null, text("a"), num(1))) {
		t.Error("three rows:", got)
	}
}

// P4.3: prints.
func TestText(t *testing.T) {
	for i, c := range []struct {
		r    api.Row
		want string
	}{
		{nil, "()"},
		{row(), "()"},
		{row(num(1)), "(1)"},
		{row(num(1), null), "(1, null)"},
		{row(null, num(1)), "(null, 1)"},
		{row(num(1), null, text("a")), "(1, null, 'a')"},
		{row(yes, no, num(-7), num(math.MinInt)), "(true, false, -7, -9223372036854775808)"},
		{row(text("")), "('')"},
		{row(text(", "), text("it's"), text("()")), "(', ', 'it''s', '()')"},
		{row(text("\x00\xff\n")), "('\x00\xff\n')"},
		{row(api.Value{Kind: 9}, num(1), api.Value{Kind: -1}), "(?, 1, ?)"},
		{row(api.Value{Kind: api.Null, N: 1}, api.Value{Kind: api.Bool, N: 5}), "(null, true)"},
		{make(api.Row, 41), "(" + strings.Repeat("null, ", 40) + "null)"},
		{slices.Repeat(row(num(2)), 100000), "(" + strings.Repeat("2, ", 99999) + "2)"},
	} {
		if got := Text(c.r); got != c.want {
			t.Errorf("case %d: %.80q, want %.80q", i, got, c.want)
		}
	}
}

// rising holds rows in order: those of which one begins as the other, and those with values that are not valid, among them.
func rising() []api.Row {
	return []api.Row{
		nil,
		{{Kind: math.MinInt}}, {{Kind: -1}, num(9)},
		{{N: -1}}, {null}, {null, null}, {null, num(5)}, {null, text("")}, {{S: "a"}}, {{N: 1}},
		{no}, {yes}, {yes, null}, {{Kind: api.Bool, N: 2}},
		{num(math.MinInt)}, {num(-10)}, {num(-9)}, {num(1)}, {num(1), num(2), num(9)}, {num(1), num(5)}, {num(1), text("a")}, {num(2)}, {num(10)}, {num(math.MaxInt)},
		{text("")}, {text(""), num(1)}, {text("\x00")}, {text("B")}, {text("a")}, {text("a"), null}, {text("a\x00")}, {text("aa")}, {text("b")}, {text("\xff")},
		slices.Repeat(row(text("\xff")), 60),
		{{Kind: api.Kinds}}, {{Kind: math.MaxInt}},
	}
}

// P4.3: cases written out by hand.
func TestSortCases(t *testing.T) {
	for i, c := range []struct{ l, want []api.Row }{
		{nil, nil},
		{[]api.Row{}, nil},
		{[]api.Row{nil}, []api.Row{nil}},
		{[]api.Row{{}, nil, {}}, []api.Row{nil, nil, nil}},
		{[]api.Row{{num(3), num(1), num(2)}}, []api.Row{{num(3), num(1), num(2)}}},
		{[]api.Row{{num(2)}, {num(1)}}, []api.Row{{num(1)}, {num(2)}}},
		{[]api.Row{{num(1)}, {num(2)}}, []api.Row{{num(1)}, {num(2)}}},
		{[]api.Row{{num(10)}, {num(9)}, {num(-1)}}, []api.Row{{num(-1)}, {num(9)}, {num(10)}}},
		{[]api.Row{{num(2)}, {num(1)}, {num(2)}, {num(1)}, {num(2)}}, []api.Row{{num(1)}, {num(1)}, {num(2)}, {num(2)}, {num(2)}}},
		{[]api.Row{{yes}, {yes}}, []api.Row{{yes}, {yes}}},
		{[]api.Row{{num(1), null}, {num(1)}, nil}, []api.Row{nil, {num(1)}, {num(1), null}}},
		{[]api.Row{{num(2)}, {num(1), num(5)}, {num(1)}, {num(2)}}, []api.Row{{num(1)}, {num(1), num(5)}, {num(2)}, {num(2)}}},
		{[]api.Row{{text("a")}, {num(5)}, {yes}, {null}}, []api.Row{{null}, {yes}, {num(5)}, {text("a")}}},
		{[]api.Row{{num(1), text("b")}, {num(1), text("a")}, {num(0), text("c")}}, []api.Row{{num(0), text("c")}, {num(1), text("a")}, {num(1), text("b")}}},
	} {
		if got := Sort(c.l); !equal(got, c.want) {
			t.Errorf("case %d: %#v, want %#v", i, got, c.want)
		}
	}
	if got := Sort(rising()); !equal(got, rising()) {
		t.Error("rows that rise are put into another order")
	}
}

// each calls do with every order of l.
func each(l []api.Row, do func(l []api.Row)) {
	var place func(at int)
	place = func(at int) {
		if at == len(l) {
			do(l)
			return
		}
		for i := at; i < len(l); i++ {
			l[at], l[i] = l[i], l[at]
			place(at + 1)
			l[at], l[i] = l[i], l[at]
		}
	}
	place(0)
}

// P4.3, P4.4: every order of a few rows, some of them there more than once, is sorted alike.
func TestSortOrders(t *testing.T) {
	for i, want := range [][]api.Row{
		nil,
		{nil},
		{nil, nil, {null}, {null}},
		{{num(1)}, {num(1), null}, {num(1), null, null}, {num(1), num(0)}, {num(2)}},
		{nil, {null}, {yes}, {num(1)}, {num(1)}, {num(1)}, {text("a")}},
		{{{Kind: -1}}, {{N: 1}}, {{N: 1}}, {{Kind: api.Bool, N: 2}}, {num(0)}, {text("a"), {Kind: 9}}, {{Kind: 9}}},
	} {
		each(copied(want), func(l []api.Row) {
			if got := Sort(l); !equal(got, want) {
				t.Fatalf("case %d: %#v is sorted to %#v", i, l, got)
			}
		})
	}
}

// P4.4: many rows, each of them as often as its place says, laid out in many orders, are sorted alike.
func TestSortMany(t *testing.T) {
	var want []api.Row
	for i, r := range rising() {
		for range i%4 + 1 {
			want = append(want, r)
		}
	}
	// Steps through a prime number of places reach each place once.
	prime := 97
	for len(want) < prime {
		want = append(want, row(api.Value{Kind: math.MaxInt}, num(len(want))))
	}
	if len(want) != prime {
		t.Fatal(len(want), "rows")
	}
	for step := 1; step < prime; step++ {
		l := make([]api.Row, prime)
		for i, r := range want {
			l[i*step%prime] = r
		}
		if got := Sort(l); !equal(got, want) {
			t.Fatalf("steps of %d are sorted otherwise", step)
		}
	}
}

// P4.3: the order is key.Compare's, for all rows of up to two of all values.
func TestSortCompare(t *testing.T) {
	all := append(valid(), invalid()...)
	l := []api.Row{nil}
	for _, a := range all {
		l = append(l, row(a))
		for _, b := range all {
			l = append(l, row(b, a))
		}
	}
	got := Sort(l)
	if len(got) != len(l) {
		t.Fatalf("%d rows of %d", len(got), len(l))
	}
	for i := range len(got) - 1 {
		if key.Compare(got[i], got[i+1]) >= 0 {
			t.Errorf("%#v is not ahead of %#v", got[i], got[i+1])
		}
	}
}

// R1: many rows, and long ones, are not too much, in orders that are hard to sort too.
func TestLong(t *testing.T) {
	const size = 200000
	falling, same, saw := make([]api.Row, size), make([]api.Row, size), make([]api.Row, size)
	for i := range size {
		falling[i], same[i], saw[i] = row(num(size-i)), row(num(1)), row(num(i%7), text("a"))
	}
	for i, l := range [][]api.Row{falling, same, saw} {
		got := Sort(l)
		if len(got) != size || !slices.IsSortedFunc(got, func(a, b api.Row) int { return key.Compare(a, b) }) {
			t.Errorf("list %d is not sorted: %d rows", i, len(got))
		}
	}
	long := make(api.Row, 1000000)
	if May(long) || Fits(long, make([]int, len(long)), make([]bool, len(long))) || len(Join(long, long)) != 2*len(long) {
		t.Error("a long row is off")
	}
	if got, ok := Pick(long, []int{len(long) - 1}); !ok || !slices.Equal(got, row(null)) {
		t.Error("a long row's last value:", got, ok)
	}
}

// R4: rows and lists that were given stay as they are.
func TestKeepsArguments(t *testing.T) {
	l := []api.Row{{text("b"), null}, {num(3), yes}, nil, {num(3)}, {num(3), yes}, {{Kind: 9}}}
	cols, kinds, nulls := []int{1, 0, 1}, []int{api.Text, api.Int}, []bool{false, true}
	before := copied(l)
	for _, r := range l {
		May(r)
		Fits(r, kinds, nulls)
		Pick(r, cols)
		Pick(r, []int{7})
		Text(r)
	}
	Join(l...)
	Sort(l)
	if !equal(l, before) {
		t.Errorf("rows were changed: %#v", l)
	}
	if !slices.Equal(cols, []int{1, 0, 1}) || !slices.Equal(kinds, []int{api.Text, api.Int}) || !slices.Equal(nulls, []bool{false, true}) {
		t.Error("lists were changed:", cols, kinds, nulls)
	}
}

// R4: a list that has room behind its end is not written there.
func TestKeepsBehindEnd(t *testing.T) {
	whole := row(num(1), num(2), num(3))
	rows := []api.Row{{num(2)}, {num(1)}, {num(0)}}
	Join(whole[:1], row(num(9), num(9)))
	Pick(whole[:2], []int{1, 0, 1})
	Sort(rows[:2])
	if !slices.Equal(whole, row(num(1), num(2), num(3))) || !equal(rows, []api.Row{{num(2)}, {num(1)}, {num(0)}}) {
		t.Error("what is behind the end was changed:", whole, rows)
	}
}

// spoil writes over all that r has, also over the room behind its end.
func spoil(r api.Row) {
	r = r[:cap(r)]
	for i := range r {
		r[i] = text("spoilt")
	}
}

// R4: answers are new memory: to write over one changes neither the arguments nor another row of the answer.
func TestSharesNothing(t *testing.T) {
	r := row(num(1), num(2))
	one := Join(r)
	both := Join(r, r)
	behind := Join(r, nil)
	picked, _ := Pick(r, []int{0, 1})
	for _, a := range []api.Row{one, both, behind, picked} {
		spoil(a)
	}
	if !slices.Equal(r, row(num(1), num(2))) {
		t.Error("a row changes with what was made of it:", r)
	}
	l := []api.Row{r, r, {num(0)}, r}
	sorted := Sort(l)
	spoil(sorted[1])
	if !equal(sorted, []api.Row{{num(0)}, {text("spoilt"), text("spoilt")}, {num(1), num(2)}, {num(1), num(2)}}) {
		t.Error("rows of one answer share memory:", sorted)
	}
	for i := range sorted {
		spoil(sorted[i])
		sorted[i] = nil
	}
	if !equal(l, []api.Row{{num(1), num(2)}, {num(1), num(2)}, {num(0)}, {num(1), num(2)}}) {
		t.Error("the list changes with what was sorted of it:", l)
	}
}

// R4: answers stay as they are when an argument is changed later.
func TestAnswersStay(t *testing.T) {
	r := row(num(1), num(2))
	l := []api.Row{r, {num(0)}}
	joined, sorted := Join(r), Sort(l)
	picked, _ := Pick(r, []int{1, 0})
	spoil(r)
	l[1] = nil
	if !slices.Equal(joined, row(num(1), num(2))) || !slices.Equal(picked, row(num(2), num(1))) || !equal(sorted, []api.Row{{num(0)}, {num(1), num(2)}}) {
		t.Error("answers change with their arguments:", joined, picked, sorted)
	}
}
