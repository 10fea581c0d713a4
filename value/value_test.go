package value

import (
	"math"
	"math/big"
	"slices"
	"strings"
	"testing"

	"levee/api"
)

var (
	null = api.Value{}
	yes  = api.Value{Kind: api.Bool, N: 1}
	no   = api.Value{Kind: api.Bool}
)

func num(n int) api.Value     { return api.Value{Kind: api.Int, N: n} }
func text(s string) api.Value { return api.Value{Kind: api.Text, S: s} }

// valid and invalid hold the ordinary values, the edges of what is valid, and what lies just beyond them.
func valid() []api.Value {
	return []api.Value{
		null, no, yes,
		num(math.MinInt), num(-1), num(0), num(1), num(math.MaxInt),
		text(""), text("\x00"), text("'"), text("a"), text("a'b"), text("b"), text("\xff"),
		text(strings.Repeat("x", 1000)),
	}
}

func invalid() []api.Value {
	return []api.Value{
		{Kind: api.Null, N: 1}, {Kind: api.Null, N: -1}, {Kind: api.Null, S: "a"},
		{Kind: api.Bool, N: 2}, {Kind: api.Bool, N: -1}, {Kind: api.Bool, N: math.MinInt},
		{Kind: api.Bool, S: "a"}, {Kind: api.Bool, N: 1, S: "a"}, {Kind: api.Bool, N: 1, S: "\x00"},
		{Kind: api.Int, S: "a"}, {Kind: api.Int, N: 7, S: "\x00"},
		{Kind: api.Text, N: 1}, {Kind: api.Text, N: -1, S: "a"}, text(strings.Repeat("x", 1001)),
		{Kind: api.Kinds}, {Kind: 9}, {Kind: -1}, {Kind: -1, N: 1, S: "a"},
		{Kind: math.MaxInt}, {Kind: math.MinInt},
	}
}

func all() []api.Value { return append(valid(), invalid()...) }

// P1.1: what is valid.
func TestMay(t *testing.T) {
	for i, v := range valid() {
		if !May(v) {
			t.Errorf("valid %d: May is false", i)
		}
	}
	for i, v := range invalid() {
		if May(v) {
			t.Errorf("invalid %d: May is true", i)
		}
	}
}

// P1.1: the order is by Kind, then by N, then by S in byte order, whether values are valid or not.
func TestCompare(t *testing.T) {
	rising := []api.Value{
		{Kind: math.MinInt, N: 5}, {Kind: -1, S: "z"},
		{Kind: api.Null, N: math.MinInt, S: "z"}, {Kind: api.Null, N: -1}, null, {Kind: api.Null, S: "a"}, {Kind: api.Null, N: 1},
		{Kind: api.Bool, N: -1}, no, {Kind: api.Bool, S: "a"}, yes, {Kind: api.Bool, N: 2},
		num(math.MinInt), num(-2), num(-1), {Kind: api.Int, N: -1, S: "a"}, num(0), num(1), num(2), num(10), num(math.MaxInt),
		{Kind: api.Text, N: -1, S: "z"}, text(""), text("\x00"), text("A"), text("a"), text("a\x00"), text("aa"), text("b"), text("\x7f"), text("\x80"), text("\xff"),
		text("\xff" + strings.Repeat("x", 5000)), {Kind: api.Text, N: 1},
		{Kind: api.Kinds}, {Kind: math.MaxInt},
	}
	for i, a := range rising {
		for k, b := range rising {
			want := 0
			if i < k {
				want = -1
			} else if i > k {
				want = 1
			}
			if got := Compare(a, b); got != want {
				t.Errorf("Compare of %d and %d: %d, want %d", i, k, got, want)
			}
		}
	}
}

// P1.1: truth values.
func TestTruth(t *testing.T) {
	if got := Truth(true); got != (api.Value{Kind: 1, N: 1}) {
		t.Error("true:", got)
	}
	if got := Truth(false); got != (api.Value{Kind: 1, N: 0}) {
		t.Error("false:", got)
	}
}

// P1.2: cases written out by hand.
func TestLogicCases(t *testing.T) {
	for i, c := range []struct {
		l       []api.Value
		and, or api.Value
	}{
		{nil, yes, no},
		{[]api.Value{}, yes, no},
		{[]api.Value{yes}, yes, yes},
		{[]api.Value{no}, no, no},
		{[]api.Value{null}, null, null},
		{[]api.Value{yes, yes}, yes, yes},
		{[]api.Value{no, no}, no, no},
		{[]api.Value{yes, no}, no, yes},
		{[]api.Value{yes, null}, null, yes},
		{[]api.Value{null, yes}, null, yes},
		{[]api.Value{no, null}, no, null},
		{[]api.Value{null, no}, no, null},
		{[]api.Value{null, null}, null, null},
		{[]api.Value{yes, null, no}, no, yes},
		{[]api.Value{null, yes, yes}, null, yes},
		{[]api.Value{null, no, no}, no, null},
		{[]api.Value{num(0), num(1)}, null, null},
		{[]api.Value{text("true"), yes}, null, yes},
		{[]api.Value{text("false"), no}, no, null},
		{[]api.Value{{Kind: api.Bool, N: 2}, yes}, null, yes},
		{[]api.Value{{Kind: api.Bool, N: 1, S: "a"}}, null, null},
		{[]api.Value{{Kind: api.Bool, S: "a"}}, null, null},
		{[]api.Value{{Kind: api.Null, N: 1, S: "a"}, {Kind: -1, N: 1}}, null, null},
	} {
		if got := And(c.l...); got != c.and {
			t.Errorf("And of case %d: %#v, want %#v", i, got, c.and)
		}
		if got := Or(c.l...); got != c.or {
			t.Errorf("Or of case %d: %#v, want %#v", i, got, c.or)
		}
	}
}

// decided is P1.2 word for word: what one argument settles, else what all must be, else null.
func decided(one, every api.Value, l []api.Value) api.Value {
	if slices.Contains(l, one) {
		return one
	}
	if !slices.ContainsFunc(l, func(v api.Value) bool { return v != every }) {
		return every
	}
	return null
}

// P1.2: all pairs and triples.
func TestLogicAll(t *testing.T) {
	check := func(l ...api.Value) {
		if got, want := And(l...), decided(no, yes, l); got != want {
			t.Errorf("And%#v: %#v, want %#v", l, got, want)
		}
		if got, want := Or(l...), decided(yes, no, l); got != want {
			t.Errorf("Or%#v: %#v, want %#v", l, got, want)
		}
	}
	for _, a := range all() {
		check(a)
		for _, b := range all() {
			check(a, b)
			for _, c := range all() {
				check(a, b, c)
			}
		}
	}
}

// P1.2: many arguments, of which the last one settles it.
func TestLogicMany(t *testing.T) {
	l := slices.Repeat([]api.Value{yes}, 100000)
	if got := And(l...); got != yes {
		t.Error("all true:", got)
	}
	if got := And(append(l, no)...); got != no {
		t.Error("false at the end:", got)
	}
	l = slices.Repeat([]api.Value{no}, 100000)
	if got := Or(l...); got != no {
		t.Error("all false:", got)
	}
	if got := Or(append(l, yes)...); got != yes {
		t.Error("true at the end:", got)
	}
}

// P1.2: Not.
func TestNot(t *testing.T) {
	for _, v := range all() {
		want := null
		if v == yes {
			want = no
		} else if v == no {
			want = yes
		}
		if got := Not(v); got != want {
			t.Errorf("Not of %#v: %#v, want %#v", v, got, want)
		}
	}
}

// R4: arguments stay as they are.
func TestLogicKeepsArguments(t *testing.T) {
	l := []api.Value{yes, null, num(3), text("a"), no}
	before := slices.Clone(l)
	And(l...)
	Or(l...)
	if !slices.Equal(l, before) {
		t.Error("arguments were changed:", l)
	}
}

// operation is an arithmetic function, with the exact one that it is held against.
type operation struct {
	name  string
	do    func(a, b api.Value) (api.Value, bool)
	exact func(z, x, y *big.Int) *big.Int
}

func operations() []operation {
	return []operation{
		{"Add", Add, (*big.Int).Add},
		{"Sub", Sub, (*big.Int).Sub},
		{"Mul", Mul, (*big.Int).Mul},
	}
}

// numbers holds what is near 0, near each power of two, near both ends of 64 bits, and near the root and the factors of their bounds.
func numbers() []int {
	var l []int
	near := func(n int) { l = append(l, n-2, n-1, n, n+1, n+2) }
	near(0)
	for bit := range 63 {
		near(1 << bit)
		near(-1 << bit)
	}
	near(math.MaxInt) // wraps round to the other end, which is meant
	for _, n := range []int{3, 7, 10, 3037000499, 6700417, math.MaxInt / 3, math.MinInt / 3, math.MaxInt / 7, math.MinInt / 10} {
		near(n)
		near(-n)
	}
	return l
}

// P1.3, P5: sums, differences and products are those of exact arithmetic, or refused.
func TestArithmeticExact(t *testing.T) {
	for _, op := range operations() {
		for _, x := range numbers() {
			for _, y := range numbers() {
				exact := op.exact(new(big.Int), big.NewInt(int64(x)), big.NewInt(int64(y)))
				want, fits := null, exact.IsInt64()
				if fits {
					want = num(int(exact.Int64()))
				}
				if got, ok := op.do(num(x), num(y)); got != want || ok != fits {
					t.Fatalf("%s(%d, %d): %#v %#v, want %#v %#v", op.name, x, y, got, ok, want, fits)
				}
			}
		}
	}
}

// P1.3: the edges, written out by hand.
func TestArithmeticEdges(t *testing.T) {
	const most, least = math.MaxInt, math.MinInt
	for i, c := range []struct {
		do      func(a, b api.Value) (api.Value, bool)
		a, b, n int
		ok      bool
	}{
		{Add, most - 1, 1, most, true}, {Add, most, 1, 0, false}, {Add, 1, most, 0, false}, {Add, most, most, 0, false},
		{Add, least + 1, -1, least, true}, {Add, least, -1, 0, false}, {Add, -1, least, 0, false}, {Add, least, least, 0, false},
		{Add, most, least, -1, true}, {Add, most, 0, most, true}, {Add, 0, least, least, true},
		{Sub, 0, most, -most, true}, {Sub, 0, least, 0, false}, {Sub, -1, least, most, true}, {Sub, -2, most, 0, false},
		{Sub, -1, most, least, true}, {Sub, least, 1, 0, false}, {Sub, most, -1, 0, false}, {Sub, least, least, 0, true}, {Sub, most, least, 0, false},
		{Mul, most, 1, most, true}, {Mul, most, -1, -most, true}, {Mul, least, 1, least, true}, {Mul, 1, least, least, true},
		{Mul, least, -1, 0, false}, {Mul, -1, least, 0, false}, {Mul, least, 0, 0, true}, {Mul, 0, least, 0, true},
		{Mul, 1 << 32, 1 << 31, 0, false}, {Mul, -1 << 32, 1 << 31, least, true}, {Mul, 3037000499, 3037000499, 9223372030926249001, true},
		{Mul, 3037000500, 3037000500, 0, false}, {Mul, 1 << 32, 1 << 32, 0, false}, {Mul, most, most, 0, false}, {Mul, least, least, 0, false},
	} {
		want := null
		if c.ok {
			want = num(c.n)
		}
		if got, ok := c.do(num(c.a), num(c.b)); got != want || ok != c.ok {
			t.Errorf("case %d: %#v %#v, want %#v %#v", i, got, ok, want, c.ok)
		}
	}
}

// P1.3: null comes ahead of wrong kinds, and those ahead of numbers; fields beside Kind and N do not count.
func TestArithmeticKinds(t *testing.T) {
	for _, op := range operations() {
		for _, a := range all() {
			for _, b := range all() {
				if a.Kind == api.Int && b.Kind == api.Int {
					continue
				}
				anyNull := a.Kind == api.Null || b.Kind == api.Null
				if got, ok := op.do(a, b); got != null || ok != anyNull {
					t.Errorf("%s(%#v, %#v): %#v %#v", op.name, a, b, got, ok)
				}
			}
		}
		six, two := api.Value{Kind: api.Int, N: 6, S: "a"}, api.Value{Kind: api.Int, N: 2, S: "b"}
		want, _ := op.do(num(6), num(2))
		if got, ok := op.do(six, two); got != want || !ok {
			t.Errorf("%s with texts: %#v %#v, want %#v", op.name, got, ok, want)
		}
	}
}

// P1.4: prints.
func TestText(t *testing.T) {
	for i, c := range []struct {
		v    api.Value
		want string
	}{
		{null, "null"}, {api.Value{Kind: api.Null, N: 3, S: "a"}, "null"},
		{no, "false"}, {yes, "true"}, {api.Value{Kind: api.Bool, N: 2}, "true"}, {api.Value{Kind: api.Bool, N: -1}, "true"}, {api.Value{Kind: api.Bool, S: "a"}, "false"},
		{num(0), "0"}, {num(7), "7"}, {num(-7), "-7"}, {num(1000), "1000"}, {api.Value{Kind: api.Int, N: 5, S: "a"}, "5"},
		{num(math.MaxInt), "9223372036854775807"}, {num(math.MinInt), "-9223372036854775808"},
		{text(""), "''"}, {text("a"), "'a'"}, {text("it's"), "'it''s'"}, {text("'"), "''''"}, {text("''"), "''''''"}, {text("'a'"), "'''a'''"},
		{text("\x00\xff\"\\\n"), "'\x00\xff\"\\\n'"}, {text("null"), "'null'"}, {api.Value{Kind: api.Text, N: 4, S: "a"}, "'a'"},
		{text(strings.Repeat("'", 5000)), "'" + strings.Repeat("'", 10000) + "'"},
		{api.Value{Kind: api.Kinds}, "?"}, {api.Value{Kind: 9, N: 1, S: "a"}, "?"}, {api.Value{Kind: -1}, "?"},
		{api.Value{Kind: math.MaxInt}, "?"}, {api.Value{Kind: math.MinInt}, "?"},
	} {
		if got := Text(c.v); got != c.want {
			t.Errorf("case %d: %q, want %q", i, got, c.want)
		}
	}
}

// P1.5: Compare is a total order.
func TestCompareTotal(t *testing.T) {
	for _, a := range all() {
		for _, b := range all() {
			if (Compare(a, b) == 0) != (a == b) || Compare(a, b) != -Compare(b, a) {
				t.Errorf("%#v and %#v are not ordered one way", a, b)
			}
			for _, c := range all() {
				if Compare(a, b) <= 0 && Compare(b, c) <= 0 && Compare(a, c) > 0 {
					t.Errorf("%#v, %#v, %#v do not rise", a, b, c)
				}
			}
		}
	}
}

// P1.5: And and Or are dual, commutative and associative.
func TestLogicLaws(t *testing.T) {
	for _, a := range all() {
		for _, b := range all() {
			if Not(And(a, b)) != Or(Not(a), Not(b)) || Not(Or(a, b)) != And(Not(a), Not(b)) {
				t.Errorf("%#v and %#v: not dual", a, b)
			}
			if And(a, b) != And(b, a) || Or(a, b) != Or(b, a) {
				t.Errorf("%#v and %#v: not commutative", a, b)
			}
			for _, c := range all() {
				if And(a, And(b, c)) != And(And(a, b), c) || And(a, b, c) != And(And(a, b), c) {
					t.Errorf("%#v, %#v, %#v: And is not associative", a, b, c)
				}
				if Or(a, Or(b, c)) != Or(Or(a, b), c) || Or(a, b, c) != Or(Or(a, b), c) {
					t.Errorf("%#v, %#v, %#v: Or is not associative", a, b, c)
				}
			}
		}
	}
	if Not(And()) != Or() || Not(Or()) != And() {
		t.Error("without arguments: not dual")
	}
}
