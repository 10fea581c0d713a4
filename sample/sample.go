// Package sample makes and compares bags for the tests of the layers above package bag. No layer imports it.
package sample

import (
	"math"
	"slices"
	"strconv"
	"strings"

	"levee/api"
	"levee/bag"
	"levee/lex"
	"levee/row"
)

// Billion is the greatest count of a valid bag.
const Billion = 1000000000

// Num returns the number n.
func Num(n int) api.Value { return api.Value{Kind: api.Int, N: n} }

// Text returns the text s.
func Text(s string) api.Value { return api.Value{Kind: api.Text, S: s} }

// One returns the bag of r alone, n times, whether it is valid or not.
func One(r api.Row, n int) api.Bag { return api.Bag{{Row: r, N: n}} }

// Total returns how many rows b holds, each as often as its count says.
func Total(b api.Bag) int {
	sum := 0
	for _, c := range b {
		sum += c.N
	}
	return sum
}

// Bag returns the bag that s prints, as bag.Text does, in any order. It panics where there is none, since a test that names such a bag is wrong.
func Bag(s string) api.Bag {
	tokens, bad := lex.Lex(s)
	if bad != api.OK {
		panic("no tokens: " + s)
	}
	var all []api.Bag
	var r api.Row
	for i, x := range tokens {
		switch {
		case x.Text == "(":
			r = nil
		case x.Kind == api.TokWord:
			r = append(r, word(x.Text))
		case x.Text == ")" && (i+1 == len(tokens) || tokens[i+1].Text != "*"):
			all = append(all, One(r, 1))
		case x.Kind == api.TokValue && i > 0 && tokens[i-1].Text == "*":
			all = append(all, One(r, x.V.N))
		case x.Kind == api.TokValue:
			r = append(r, x.V)
		}
	}
	b := bag.Plus(all...)
	if len(b) == 0 && len(all) > 0 {
		panic("no bag: " + s)
	}
	return b
}

// word returns the value that is written as a word.
func word(s string) api.Value {
	switch s {
	case "null":
		return api.Value{}
	case "false":
		return api.Value{Kind: api.Bool}
	case "true":
		return api.Value{Kind: api.Bool, N: 1}
	}
	panic("no value: " + s)
}

// Bags returns every bag of up to size of rows, which rise, with each of counts for each row.
func Bags(size int, rows []api.Row, counts ...int) []api.Bag {
	all := []api.Bag{nil}
	for _, r := range rows {
		for _, b := range all {
			if len(b) == size {
				continue
			}
			for _, n := range counts {
				all = append(all, append(Copy(b), api.Count{Row: r, N: n}))
			}
		}
	}
	return all
}

// Invalid returns bags that have one fault each, in the first, a middle and the last place of rows that rise.
func Invalid() []api.Bag {
	good := Bag("(1, 1) (2, 2) (3, 3)")
	var out []api.Bag
	change := func(at int, f func(c *api.Count)) {
		b := Copy(good)
		f(&b[at])
		out = append(out, b)
	}
	for at := range good {
		for _, n := range []int{0, Billion + 1, -Billion - 1, math.MaxInt, math.MinInt, 1 << 32, math.MinInt + 1} {
			change(at, func(c *api.Count) { c.N = n })
		}
		for _, v := range invalidValues() {
			change(at, func(c *api.Count) { c.Row[1] = v })
		}
		change(at, func(c *api.Count) { c.Row = append(c.Row, make(api.Row, 39)...) })
		// Out of order by one row alone.
		change(at, func(c *api.Count) { c.Row[0] = Num([]int{9, 9, 0}[at]) })
		// And the same row twice.
		change(at, func(c *api.Count) { c.Row = slices.Clone(good[(at+2)%3].Row) })
	}
	return append(out, slices.Concat(good, good), make(api.Bag, 1), make(api.Bag, 100), One(make(api.Row, 41), 1))
}

// invalidValues returns values that are not valid, each by one fault.
func invalidValues() []api.Value {
	return []api.Value{
		{N: 1}, {S: "a"}, {Kind: api.Bool, N: 2}, {Kind: api.Bool, S: "a"}, {Kind: api.Int, S: "a"}, {Kind: api.Text, N: 1},
		{Kind: api.Kinds}, {Kind: -1}, Text(strings.Repeat("x", 1001)),
	}
}

// Same reports whether a and b hold the same rows and counts, in the same order.
func Same(a, b api.Bag) bool {
	return slices.EqualFunc(a, b, func(x, y api.Count) bool { return x.N == y.N && slices.Equal(x.Row, y.Row) })
}

// Copy returns b in new memory.
func Copy(b api.Bag) api.Bag {
	var out api.Bag
	for _, c := range b {
		out = append(out, api.Count{Row: slices.Clone(c.Row), N: c.N})
	}
	return out
}

// Show returns what a test tells of b, whether it is valid or not: short, however great b is.
func Show(b api.Bag) string {
	const most = 300
	s := ""
	for _, c := range b {
		s += row.Text(c.Row) + "*" + strconv.Itoa(c.N) + " "
		if len(s) > most {
			return s[:most] + ".. (" + strconv.Itoa(len(b)) + " rows)"
		}
	}
	return "[" + strings.TrimSpace(s) + "]"
}
