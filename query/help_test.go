package query

import (
	"fmt"
	"math"
	"slices"
	"strconv"
	"strings"
	"testing"

	"levee/api"
	"levee/bag"
	"levee/ddl"
	"levee/lex"
)

const billion = 1000000000

func num(n int) api.Value     { return api.Value{Kind: api.Int, N: n} }
func text(s string) api.Value { return api.Value{Kind: api.Text, S: s} }

// held is the bag that s prints, as bag.Text does, in any order.
func held(s string) api.Bag {
	tokens, bad := lex.Lex(s)
	if bad != api.OK {
		panic(fmt.Sprintf("%q: error %d", s, bad))
	}
	var all []api.Bag
	var r api.Row
	for i, x := range tokens {
		switch {
		case x.Text == "(":
			r = nil
		case x.Text == "null":
			r = append(r, api.Value{})
		case x.Text == "true" || x.Text == "false":
			r = append(r, api.Value{Kind: api.Bool, N: map[string]int{"true": 1}[x.Text]})
		case x.Text == ")" && (i+1 == len(tokens) || tokens[i+1].Text != "*"):
			all = append(all, one(r, 1))
		case x.Kind == api.TokValue && tokens[i-1].Text == "*":
			all = append(all, one(r, x.V.N))
		case x.Kind == api.TokValue:
			r = append(r, x.V)
		}
	}
	b := bag.Plus(all...)
	if len(b) == 0 && len(all) > 0 {
		panic(fmt.Sprintf("%q: no bag", s))
	}
	return b
}

// on is a join by these columns.
func on(left, right int) api.View { return api.View{With: "w", On: [2]int{left, right}} }

// where is a view with the condition that s holds.
func where(s string) api.View {
	d, bad := ddl.Parse("view v from t where [" + s + "] pick 0")
	if bad != api.OK {
		panic(fmt.Sprintf("%q: error %d", s, bad))
	}
	return api.View{Where: d.View.Where}
}

func pick(l ...int) api.View { return api.View{Pick: l} }

// equal is a row of n values v.
func equal(v api.Value, n int) api.Row { return slices.Repeat(api.Row{v}, n) }

// onesOf returns the rows of no ones, one, two, .., which are there as often as counts says.
func onesOf(counts []int) api.Bag {
	var b api.Bag
	for i, n := range counts {
		if n != 0 {
			b = append(b, api.Count{Row: equal(num(1), i), N: n})
		}
	}
	return b
}

// pairsOf returns rows (v, 0), (v, 1), .., n of them.
func pairsOf(v, n int) api.Bag {
	var b api.Bag
	for i := range n {
		b = append(b, api.Count{Row: api.Row{num(v), num(i)}, N: 1})
	}
	return b
}

func same(a, b api.Bag) bool {
	return slices.EqualFunc(a, b, func(x, y api.Count) bool { return x.N == y.N && slices.Equal(x.Row, y.Row) })
}

func copied(b api.Bag) api.Bag {
	var out api.Bag
	for _, c := range b {
		out = append(out, api.Count{Row: slices.Clone(c.Row), N: c.N})
	}
	return out
}

// shown keeps what is told of a bag short, however great it is, whether it is valid or not.
func shown(b api.Bag) string {
	if s := bag.Text(b); s != "" && len(s) < 300 {
		return s
	}
	s := fmt.Sprint(b)
	return strconv.Itoa(len(b)) + " rows " + s[:min(len(s), 300)]
}

func expectProduct(t *testing.T, v api.View, from, with, want api.Bag, wantBad api.Errno) {
	t.Helper()
	got, bad := Product(v, from, with)
	if bad != wantBad || !same(got, want) {
		t.Errorf("%q on %v of %s and %s: %s, error %d; want %s, error %d", v.With, v.On, shown(from), shown(with), shown(got), bad, shown(want), wantBad)
	}
}

func expectMany(t *testing.T, v api.View, from, with api.Bag) {
	t.Helper()
	expectProduct(t, v, from, with, nil, api.ErrQueryMany)
}

func expectWhere(t *testing.T, v api.View, b, want api.Bag, wantBad api.Errno) {
	t.Helper()
	got, bad := Where(v, b)
	if bad != wantBad || !same(got, want) {
		t.Errorf("%v of %s: %s, error %d; want %s, error %d", v.Where, shown(b), shown(got), bad, shown(want), wantBad)
	}
}

func expectPick(t *testing.T, v api.View, b, want api.Bag) {
	t.Helper()
	if got := Pick(v, b); !same(got, want) {
		t.Errorf("%v of %s: %s; want %s", v.Pick, shown(b), shown(got), shown(want))
	}
}

// invalidBags holds bags that have one fault each, in the first, a middle and the last place of rows that rise.
func invalidBags() []api.Bag {
	good := held("(1, 1) (2, 2) (3, 3)")
	var out []api.Bag
	change := func(at int, f func(c *api.Count)) {
		b := copied(good)
		f(&b[at])
		out = append(out, b)
	}
	for at := range good {
		for _, n := range []int{0, billion + 1, -billion - 1, math.MaxInt, math.MinInt, 1 << 32, math.MinInt + 1} {
			change(at, func(c *api.Count) { c.N = n })
		}
		for _, v := range []api.Value{{N: 1}, {S: "a"}, {Kind: api.Int, S: "a"}, {Kind: api.Bool, N: 2}, {Kind: api.Text, N: 1}, {Kind: api.Kinds}, {Kind: -1}, text(strings.Repeat("x", 1001))} {
			change(at, func(c *api.Count) { c.Row[1] = v })
		}
		change(at, func(c *api.Count) { c.Row = append(c.Row, make(api.Row, 39)...) })
		// Out of order by one row alone.
		change(at, func(c *api.Count) { c.Row[0] = num([]int{9, 9, 0}[at]) })
		// And the same row twice.
		change(at, func(c *api.Count) { c.Row = slices.Clone(good[(at+2)%3].Row) })
	}
	return append(out, slices.Concat(good, good), make(api.Bag, 1), make(api.Bag, 100), api.Bag{{Row: make(api.Row, 41), N: 1}})
}
