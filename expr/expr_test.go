package expr

import (
	"math"
	"slices"
	"strings"
	"testing"

	"levee/api"
	"levee/value"
)

var (
	null = api.Value{}
	yes  = api.Value{Kind: api.Bool, N: 1}
	no   = api.Value{Kind: api.Bool}
)

func num(n int) api.Value     { return api.Value{Kind: api.Int, N: n} }
func text(s string) api.Value { return api.Value{Kind: api.Text, S: s} }

func col(n int) api.Node           { return api.Node{Op: api.ECol, N: n} }
func constOf(v api.Value) api.Node { return api.Node{Op: api.EConst, V: v} }
func do(op int) api.Node           { return api.Node{Op: op} }

// steps makes an expression of operations (ints), constants (values) and nodes.
func steps(l ...any) api.Expr {
	var e api.Expr
	for _, x := range l {
		switch s := x.(type) {
		case int:
			e = append(e, do(s))
		case api.Value:
			e = append(e, constOf(s))
		case api.Node:
			e = append(e, s)
		}
	}
	return e
}

// repeated is e, followed by more, that many times.
func repeated(e api.Expr, times int, more ...api.Node) api.Expr {
	return append(slices.Clone(e), slices.Repeat(more, times)...)
}

// ops holds all operations; those beyond are no steps.
func ops() []int {
	return []int{api.EAdd, api.ESub, api.EMul, api.EEq, api.ELess, api.EAnd, api.EOr, api.ENot, api.EIsNull}
}

func noOps() []int {
	return []int{api.EOps, api.EOps + 1, 77, -1, -2, 256, math.MaxInt, math.MinInt}
}

// invalid holds values that no constant may have: each kind with one field beyond its bounds, and kinds that are none.
func invalid() []api.Value {
	return []api.Value{
		{N: 1}, {N: -1}, {S: "a"},
		{Kind: api.Bool, N: 2}, {Kind: api.Bool, N: -1}, {Kind: api.Bool, N: 1, S: "a"},
		{Kind: api.Int, N: 3, S: "a"},
		{Kind: api.Text, N: 1, S: "a"}, text(strings.Repeat("x", 1001)),
		{Kind: api.Kinds}, {Kind: 9, N: 1, S: "a"}, {Kind: -1}, {Kind: math.MaxInt}, {Kind: math.MinInt},
	}
}

func short(e api.Expr) string {
	if s := Text(e); len(s) <= 80 {
		return s
	}
	return Text(e)[:80] + ".."
}

func expectType(t *testing.T, e api.Expr, cols []int, want int, wantBad api.Errno) {
	t.Helper()
	if got, bad := Type(e, cols); got != want || bad != wantBad {
		t.Errorf("Type of %q with columns %v: %d, error %d; want %d, error %d", short(e), cols, got, bad, want, wantBad)
	}
}

// expectEval asks Eval, and True, which says of every expression but the empty one what Eval says.
func expectEval(t *testing.T, e api.Expr, row api.Row, want api.Value, wantBad api.Errno) {
	t.Helper()
	if got, bad := Eval(e, row); got != want || bad != wantBad {
		t.Errorf("Eval of %q: %#v, error %d; want %#v, error %d", short(e), got, bad, want, wantBad)
	}
	if is, bad := True(e, row); len(e) > 0 && (is != (want == yes) || bad != wantBad) {
		t.Errorf("True of %q: %v, error %d; want %v, error %d", short(e), is, bad, want == yes, wantBad)
	}
}

// expectWrong says that neither a kind nor a value comes of e.
func expectWrong(t *testing.T, e api.Expr, cols []int, row api.Row, bad api.Errno) {
	t.Helper()
	expectType(t, e, cols, 0, bad)
	expectEval(t, e, row, null, bad)
}

// P3.1 to P3.3: the chapter's example.
func TestExample(t *testing.T) {
	e := steps(col(0), num(1), api.EAdd, num(5), api.ELess)
	expectType(t, e, []int{api.Int}, api.Bool, api.OK)
	expectEval(t, e, api.Row{num(3)}, yes, api.OK)
	expectEval(t, e, api.Row{num(4)}, no, api.OK)
	expectEval(t, e, api.Row{null}, null, api.OK)
	if got := Text(e); got != "c0 1 + 5 <" {
		t.Error(got)
	}
}

// P3.1, P3.2: expressions with their kinds and values, written out by hand.
func TestOrdinary(t *testing.T) {
	cols := []int{api.Int, api.Text, api.Bool, api.Int}
	row := api.Row{num(7), text("m"), yes, null}
	for _, c := range []struct {
		e    api.Expr
		kind int
		v    api.Value
	}{
		{steps(col(0)), api.Int, num(7)},
		{steps(col(1)), api.Text, text("m")},
		{steps(col(2)), api.Bool, yes},
		{steps(col(3)), api.Int, null},
		{steps(null), api.Null, null},
		{steps(no), api.Bool, no},
		{steps(num(-5)), api.Int, num(-5)},
		{steps(text("")), api.Text, text("")},
		{steps(text(strings.Repeat("x", 1000))), api.Text, text(strings.Repeat("x", 1000))},
		{steps(col(0), num(2), api.EAdd), api.Int, num(9)},
		{steps(col(0), num(2), api.ESub), api.Int, num(5)},
		{steps(num(2), col(0), api.ESub), api.Int, num(-5)},
		{steps(col(0), num(-3), api.EMul), api.Int, num(-21)},
		{steps(num(1), num(2), num(3), api.ESub, api.ESub), api.Int, num(2)},
		{steps(num(1), num(2), api.ESub, num(3), api.ESub), api.Int, num(-4)},
		{steps(num(1), num(2), num(3), api.EMul, api.EAdd), api.Int, num(7)},
		{steps(col(0), num(7), api.EEq), api.Bool, yes},
		{steps(col(0), num(8), api.EEq), api.Bool, no},
		{steps(col(0), num(8), api.ELess), api.Bool, yes},
		{steps(col(0), num(7), api.ELess), api.Bool, no},
		{steps(num(8), col(0), api.ELess), api.Bool, no},
		{steps(num(-1), num(0), api.ELess), api.Bool, yes},
		{steps(col(1), text("n"), api.ELess), api.Bool, yes},
		{steps(col(1), text("M"), api.ELess), api.Bool, no},
		{steps(col(1), text("m"), api.EEq), api.Bool, yes},
		{steps(text("a"), text("a\x00"), api.ELess), api.Bool, yes},
		{steps(no, yes, api.ELess), api.Bool, yes},
		{steps(yes, no, api.ELess), api.Bool, no},
		{steps(col(2), yes, api.EEq), api.Bool, yes},
		{steps(col(2), no, api.EAnd), api.Bool, no},
		{steps(col(2), no, api.EOr), api.Bool, yes},
		{steps(no, no, api.EOr), api.Bool, no},
		{steps(yes, yes, api.EAnd), api.Bool, yes},
		{steps(col(2), api.ENot), api.Bool, no},
		{steps(col(2), api.ENot, api.ENot), api.Bool, yes},
		{steps(col(0), api.EIsNull), api.Bool, no},
		{steps(col(1), api.EIsNull), api.Bool, no},
		{steps(no, api.EIsNull), api.Bool, no},
		{steps(col(3), api.EIsNull), api.Bool, yes},
		{steps(col(3), api.EIsNull, api.EIsNull), api.Bool, no},
		{steps(col(3), api.EIsNull, col(0), num(0), api.ELess, api.EOr), api.Bool, yes},
	} {
		expectType(t, c.e, cols, c.kind, api.OK)
		expectEval(t, c.e, row, c.v, api.OK)
	}
}

// P3.1, P3.2: null among the operands.
func TestNulls(t *testing.T) {
	for _, c := range []struct {
		e    api.Expr
		kind int
		v    api.Value
	}{
		{steps(null, null, api.EAdd), api.Int, null},
		{steps(null, num(1), api.EAdd), api.Int, null},
		{steps(num(math.MaxInt), null, api.EAdd), api.Int, null},
		{steps(null, num(math.MinInt), api.ESub), api.Int, null},
		{steps(num(1), null, api.ESub), api.Int, null},
		{steps(num(0), null, api.EMul), api.Int, null},
		{steps(null, num(0), api.EMul), api.Int, null},
		{steps(null, null, api.EEq), api.Bool, null},
		{steps(null, null, api.ELess), api.Bool, null},
		{steps(null, num(1), api.EEq), api.Bool, null},
		{steps(text("a"), null, api.EEq), api.Bool, null},
		{steps(null, yes, api.ELess), api.Bool, null},
		{steps(num(1), null, api.ELess), api.Bool, null},
		{steps(null, text("a"), api.ELess), api.Bool, null},
		{steps(null, null, api.EAnd), api.Bool, null},
		{steps(null, yes, api.EAnd), api.Bool, null},
		{steps(null, no, api.EAnd), api.Bool, no},
		{steps(no, null, api.EAnd), api.Bool, no},
		{steps(null, null, api.EOr), api.Bool, null},
		{steps(null, no, api.EOr), api.Bool, null},
		{steps(null, yes, api.EOr), api.Bool, yes},
		{steps(yes, null, api.EOr), api.Bool, yes},
		{steps(null, api.ENot), api.Bool, null},
		{steps(null, api.EIsNull), api.Bool, yes},
		{steps(null, null, api.EEq, api.EIsNull), api.Bool, yes},
		{steps(null, num(1), api.EAdd, api.EIsNull), api.Bool, yes},
	} {
		expectType(t, c.e, nil, c.kind, api.OK)
		expectEval(t, c.e, nil, c.v, api.OK)
	}
}

// P3.1, P3.2: which kinds of operands fit, for all of them; null has a value that fits everywhere but is of a kind of its own.
func TestOperandKinds(t *testing.T) {
	byKind := [api.Kinds]api.Value{null, yes, num(2), text("a")}
	const none = -1
	for _, c := range []struct {
		ops  []int
		kind [api.Kinds][api.Kinds]int // of the first operand's kind and the second one's
	}{
		{[]int{api.EAdd, api.ESub, api.EMul}, [api.Kinds][api.Kinds]int{{2, none, 2, none}, {none, none, none, none}, {2, none, 2, none}, {none, none, none, none}}},
		{[]int{api.EEq, api.ELess}, [api.Kinds][api.Kinds]int{{1, 1, 1, 1}, {1, 1, none, none}, {1, none, 1, none}, {1, none, none, 1}}},
		{[]int{api.EAnd, api.EOr}, [api.Kinds][api.Kinds]int{{1, 1, none, none}, {1, 1, none, none}, {none, none, none, none}, {none, none, none, none}}},
	} {
		for _, op := range c.ops {
			for a, kinds := range c.kind {
				for b, kind := range kinds {
					expectKind(t, steps(byKind[a], byKind[b], op), kind)
				}
			}
		}
	}
	for a, kind := range [api.Kinds]int{1, 1, none, none} {
		expectKind(t, steps(byKind[a], api.ENot), kind)
		expectKind(t, steps(byKind[a], api.EIsNull), 1)
	}
}

// expectKind says the kind of e, which has no columns; a negative one, that its operands do not fit.
func expectKind(t *testing.T, e api.Expr, kind int) {
	t.Helper()
	if kind < 0 {
		expectWrong(t, e, nil, nil, api.ErrExprType)
		return
	}
	expectType(t, e, nil, kind, api.OK)
	if v, bad := Eval(e, nil); bad != api.OK || v.Kind != kind && v != null {
		t.Errorf("Eval of %q: %#v, error %d", short(e), v, bad)
	}
}

// P3.1, P3.2: the kinds of columns are the kinds of operands, whatever value the row has there.
func TestColumnKinds(t *testing.T) {
	nulls := api.Row{null, null}
	for a := api.Bool; a < api.Kinds; a++ {
		for b := api.Bool; b < api.Kinds; b++ {
			kind, bad := api.Bool, api.OK
			if a != b {
				kind, bad = 0, api.ErrExprType
			}
			for _, op := range []int{api.EEq, api.ELess} {
				e := steps(col(0), col(1), op)
				expectType(t, e, []int{a, b}, kind, bad)
				expectEval(t, e, nulls, null, api.OK)
			}
		}
	}
}

// P3.1: columns' kinds are 1 to 3, of those columns that are asked for.
func TestTypeColumns(t *testing.T) {
	for _, kind := range []int{api.Null, api.Kinds, 5, -1, 258, math.MaxInt, math.MinInt} {
		cols := []int{api.Int, kind, api.Text}
		expectType(t, steps(col(0)), cols, api.Int, api.OK)
		expectType(t, steps(col(2)), cols, api.Text, api.OK)
		expectType(t, steps(col(1)), cols, 0, api.ErrExprType)
		expectType(t, steps(col(1), api.EIsNull), cols, 0, api.ErrExprType)
		expectType(t, steps(col(1), null, api.EEq), cols, 0, api.ErrExprType)
		expectType(t, steps(col(1), col(1), api.EEq), cols, 0, api.ErrExprType)
	}
	for kind := api.Bool; kind < api.Kinds; kind++ {
		expectType(t, steps(col(0)), []int{kind}, kind, api.OK)
		expectType(t, steps(col(0), api.EIsNull), []int{kind}, api.Bool, api.OK)
	}
}

// P3.1, P3.2: the first and the last index of a column, and those beyond.
func TestColumnIndexes(t *testing.T) {
	cols, row := []int{api.Int, api.Bool, api.Text}, api.Row{num(1), yes, text("a")}
	for i := range cols {
		expectType(t, steps(col(i)), cols, cols[i], api.OK)
		expectEval(t, steps(col(i)), row, row[i], api.OK)
		expectWrong(t, steps(col(i)), cols[:i], row[:i], api.ErrExprType)
	}
	for _, at := range []int{3, 4, 100, math.MaxInt, -1, -3, math.MinInt} {
		expectWrong(t, steps(col(at)), cols, row, api.ErrExprType)
		expectWrong(t, steps(col(at), api.EIsNull), cols, row, api.ErrExprType)
	}
	expectWrong(t, steps(col(0)), nil, nil, api.ErrExprType)
	expectWrong(t, steps(col(0)), []int{}, api.Row{}, api.ErrExprType)
}

// P3.2: a row's values are taken as they are; of an operand the Kind alone must fit, and a null is one by its Kind.
func TestRowsNotValid(t *testing.T) {
	for _, v := range invalid() {
		row := api.Row{v}
		expectEval(t, steps(col(0)), row, v, api.OK)
		expectEval(t, steps(col(0), api.EIsNull), row, value.Truth(v.Kind == api.Null), api.OK)
		same := yes
		if v.Kind == api.Null {
			same = null
		}
		expectEval(t, steps(col(0), col(0), api.EEq), row, same, api.OK)
		expectEval(t, steps(col(0), null, api.ELess), row, null, api.OK)
		for _, op := range []int{api.EAdd, api.EAnd, api.ENot} {
			fits := v.Kind == api.Null || op == api.EAdd && v.Kind == api.Int || op != api.EAdd && v.Kind == api.Bool
			e := steps(col(0), null, op)
			if op == api.ENot {
				e = steps(col(0), op)
			}
			if fits {
				expectEval(t, e, row, null, api.OK)
			} else {
				expectEval(t, e, row, null, api.ErrExprType)
			}
		}
	}
	expectEval(t, steps(col(0), num(2), api.EAdd), api.Row{{Kind: api.Int, N: 3, S: "a"}}, num(5), api.OK)
	expectEval(t, steps(col(0), num(3), api.EEq), api.Row{{Kind: api.Int, N: 3, S: "a"}}, no, api.OK)
	expectEval(t, steps(num(3), col(0), api.ELess), api.Row{{Kind: api.Int, N: 3, S: "a"}}, yes, api.OK)
	expectEval(t, steps(col(0), col(1), api.EEq), api.Row{{Kind: 9}, {Kind: 8}}, null, api.ErrExprType)
	expectEval(t, steps(col(0), yes, api.EOr), api.Row{{Kind: api.Bool, N: 2}}, yes, api.OK)
}

// P3.1, P3.2: constants that are not valid.
func TestConstantsNotValid(t *testing.T) {
	for _, v := range invalid() {
		expectWrong(t, steps(v), nil, nil, api.ErrExprType)
		expectWrong(t, steps(v, api.EIsNull), nil, nil, api.ErrExprType)
		expectWrong(t, steps(v, null, api.EEq), nil, nil, api.ErrExprType)
		expectWrong(t, steps(num(1), v, api.EAdd), nil, nil, api.ErrExprType)
	}
}

// P3.1, P3.2: N is a column's alone, V a constant's alone.
func TestOtherFieldsDoNotCount(t *testing.T) {
	for _, n := range []int{-1, 5, math.MaxInt, math.MinInt} {
		for _, v := range invalid() {
			e := api.Expr{{Op: api.ECol, V: v}, {Op: api.EConst, N: n, V: num(1)}, {Op: api.EAdd, N: n, V: v}, {Op: api.EIsNull, N: n, V: v}, {Op: api.ENot, N: n, V: v}}
			expectType(t, e, []int{api.Int}, api.Bool, api.OK)
			expectEval(t, e, api.Row{num(4)}, yes, api.OK)
			if got := Text(e); got != "c0 1 + null? not" {
				t.Error(got)
			}
		}
	}
}

// P3.1, P3.2: too few values on the stack.
func TestTooFew(t *testing.T) {
	for _, op := range ops() {
		expectWrong(t, steps(op), nil, nil, api.ErrExprType)
		expectWrong(t, steps(op, null), nil, nil, api.ErrExprType)
		if op != api.ENot && op != api.EIsNull {
			expectWrong(t, steps(null, op), nil, nil, api.ErrExprType)
			expectWrong(t, steps(null, null, op, op), nil, nil, api.ErrExprType)
			expectWrong(t, steps(null, op, null), nil, nil, api.ErrExprType)
		}
	}
}

// P3.1, P3.2: not exactly one value at the end.
func TestLeft(t *testing.T) {
	expectWrong(t, nil, nil, nil, api.ErrExprType)
	expectWrong(t, api.Expr{}, []int{api.Int}, api.Row{num(1)}, api.ErrExprType)
	expectWrong(t, steps(num(1), num(2)), nil, nil, api.ErrExprType)
	expectWrong(t, steps(null, null), nil, nil, api.ErrExprType)
	expectWrong(t, steps(num(1), num(2), num(3), api.EAdd), nil, nil, api.ErrExprType)
	expectWrong(t, steps(yes, yes, api.ENot), nil, nil, api.ErrExprType)
	expectWrong(t, repeated(nil, 100, constOf(yes)), nil, nil, api.ErrExprType)
}

// P3.1, P3.2: steps that do not exist.
func TestNoSuchStep(t *testing.T) {
	for _, op := range noOps() {
		expectWrong(t, steps(op), nil, nil, api.ErrExprType)
		expectWrong(t, steps(num(1), op), nil, nil, api.ErrExprType)
		expectWrong(t, steps(num(1), num(2), op), nil, nil, api.ErrExprType)
		expectWrong(t, steps(op, num(1)), nil, nil, api.ErrExprType)
		expectWrong(t, api.Expr{{Op: op, V: num(1)}}, []int{api.Int}, api.Row{num(1)}, api.ErrExprType)
	}
}

// P3.1, P3.2: 100 steps are executed, 101 are refused, whatever they are.
func TestSteps(t *testing.T) {
	sum := repeated(steps(num(1)), 49, constOf(num(2)), do(api.EAdd))
	expectType(t, sum, nil, api.Int, api.OK)
	expectEval(t, sum, nil, num(99), api.OK)

	nots := repeated(steps(yes), 99, do(api.ENot))
	expectType(t, nots, nil, api.Bool, api.OK)
	expectEval(t, nots, nil, no, api.OK)
	expectWrong(t, repeated(nots, 1, do(api.ENot)), nil, nil, api.ErrArg)

	deep := repeated(repeated(nil, 50, constOf(num(1))), 49, do(api.EAdd))
	expectType(t, append(deep, do(api.EIsNull)), nil, api.Bool, api.OK)
	expectEval(t, append(deep, do(api.EIsNull)), nil, no, api.OK)
	expectEval(t, deep, nil, num(50), api.OK)
	expectWrong(t, append(deep, do(api.EIsNull), do(api.ENot)), nil, nil, api.ErrArg)

	for _, n := range []api.Node{constOf(yes), constOf(api.Value{Kind: 9}), col(-1), do(99), do(api.EAdd)} {
		expectWrong(t, repeated(nil, 100, n), nil, nil, api.ErrExprType)
		expectWrong(t, repeated(nil, 101, n), nil, nil, api.ErrArg)
		expectWrong(t, repeated(nil, 100000, n), nil, nil, api.ErrArg)
	}
	tooGreat := steps(num(math.MaxInt), num(1), api.EAdd)
	expectEval(t, repeated(tooGreat, 97, do(api.EIsNull)), nil, null, api.ErrExprOverflow)
	expectEval(t, repeated(tooGreat, 98, do(api.EIsNull)), nil, null, api.ErrArg)
}

// P3.2, P5: the least and the greatest numbers; what is too great is refused, and has a kind all the same.
func TestOverflow(t *testing.T) {
	const most, least = math.MaxInt, math.MinInt
	for _, c := range []struct {
		a, b, op int
		n        int
		ok       bool
	}{
		{most, 0, api.EAdd, most, true}, {most - 1, 1, api.EAdd, most, true}, {most, 1, api.EAdd, 0, false}, {1, most, api.EAdd, 0, false},
		{least, 0, api.EAdd, least, true}, {least, -1, api.EAdd, 0, false}, {least, most, api.EAdd, -1, true}, {least, least, api.EAdd, 0, false},
		{0, most, api.ESub, -most, true}, {0, least, api.ESub, 0, false}, {-1, least, api.ESub, most, true}, {least, 1, api.ESub, 0, false},
		{-1, most, api.ESub, least, true}, {-2, most, api.ESub, 0, false}, {least, least, api.ESub, 0, true}, {most, -1, api.ESub, 0, false},
		{most, 1, api.EMul, most, true}, {most, -1, api.EMul, -most, true}, {least, 1, api.EMul, least, true}, {least, -1, api.EMul, 0, false},
		{-1, least, api.EMul, 0, false}, {least, 0, api.EMul, 0, true}, {1 << 32, 1 << 31, api.EMul, 0, false}, {-1 << 32, 1 << 31, api.EMul, least, true},
		{most, 2, api.EMul, 0, false}, {1 << 62, 4, api.EMul, 0, false}, {3037000500, 3037000500, api.EMul, 0, false},
	} {
		want, bad := num(c.n), api.OK
		if !c.ok {
			want, bad = null, api.ErrExprOverflow
		}
		for _, e := range []api.Expr{steps(col(0), col(1), c.op), steps(num(c.a), num(c.b), c.op), steps(col(0), num(c.b), c.op)} {
			expectType(t, e, []int{api.Int, api.Int}, api.Int, api.OK)
			expectEval(t, e, api.Row{num(c.a), num(c.b)}, want, bad)
		}
	}
	expectEval(t, steps(num(least), num(most), api.ELess), nil, yes, api.OK)
	expectEval(t, steps(num(most), num(least), api.ELess), nil, no, api.OK)
}

// P3.2: of several errors that of the first step is told, and what is left at the end comes last.
func TestFirstError(t *testing.T) {
	tooGreat := steps(num(math.MaxInt), num(1), api.EAdd)
	row := api.Row{num(0)}
	for _, wrong := range []api.Expr{
		steps(col(1)), steps(col(-1)), steps(api.Value{Kind: 9}), steps(99), steps(-1),
		steps(yes, num(1), api.EAdd), steps(num(1), api.ENot), steps(num(1), yes, api.EEq), steps(text("a"), null, api.EAnd),
	} {
		expectEval(t, append(slices.Clone(wrong), tooGreat...), row, null, api.ErrExprType)
		expectEval(t, append(slices.Clone(tooGreat), wrong...), row, null, api.ErrExprOverflow)
	}
	for _, op := range ops() {
		expectEval(t, append(steps(op), tooGreat...), nil, null, api.ErrExprType)
		expectEval(t, append(slices.Clone(tooGreat), do(op)), nil, null, api.ErrExprOverflow)
	}
	expectEval(t, append(slices.Clone(tooGreat), constOf(yes)), nil, null, api.ErrExprOverflow)
	expectEval(t, append(steps(yes), tooGreat...), nil, null, api.ErrExprOverflow)
	expectEval(t, steps(num(math.MaxInt), text("a"), api.EAdd), nil, null, api.ErrExprType)
	expectEval(t, steps(null, text("a"), api.EMul), nil, null, api.ErrExprType)
}

// P3.2: True is for the true value alone; the empty expression holds for every row.
func TestTrue(t *testing.T) {
	for _, v := range append([]api.Value{null, no, num(1), num(0), text("true"), text("")}, invalid()...) {
		if is, bad := True(steps(col(0)), api.Row{v}); is || bad != api.OK {
			t.Errorf("%#v: %v, error %d", v, is, bad)
		}
	}
	if is, bad := True(steps(col(0)), api.Row{yes}); !is || bad != api.OK {
		t.Error("true:", is, bad)
	}
	for _, e := range []api.Expr{nil, {}} {
		for _, row := range []api.Row{nil, {}, {no}, {null, num(3)}, {{Kind: 9}}} {
			if is, bad := True(e, row); !is || bad != api.OK {
				t.Error("the empty expression:", is, bad)
			}
		}
	}
	for _, c := range []struct {
		e   api.Expr
		bad api.Errno
	}{
		{repeated(steps(yes), 100, do(api.EIsNull)), api.ErrArg},
		{steps(yes, yes), api.ErrExprType},
		{steps(yes, col(0), api.EOr), api.ErrExprType},
		{steps(num(math.MaxInt), num(2), api.EMul), api.ErrExprOverflow},
	} {
		if is, bad := True(c.e, nil); is || bad != c.bad {
			t.Errorf("%q: %v, error %d; want error %d", short(c.e), is, bad, c.bad)
		}
	}
}

// P3.3: prints.
func TestText(t *testing.T) {
	for _, c := range []struct {
		e    api.Expr
		want string
	}{
		{nil, ""},
		{api.Expr{}, ""},
		{steps(col(0)), "c0"},
		{steps(col(12), col(-3)), "c12 c-3"},
		{steps(col(math.MaxInt), col(math.MinInt)), "c9223372036854775807 c-9223372036854775808"},
		{steps(null, no, yes, num(0), num(-7), text(""), text("it's"), text("a b")), "null false true 0 -7 '' 'it''s' 'a b'"},
		{steps(num(math.MinInt)), "-9223372036854775808"},
		{steps(api.Value{Kind: api.Bool, N: 5}, api.Value{Kind: 9}, api.Value{N: 2}), "true ? null"},
		{steps(api.EAdd, api.ESub, api.EMul, api.EEq, api.ELess, api.EAnd, api.EOr, api.ENot, api.EIsNull), "+ - * = < and or not null?"},
		{steps(2, 3, 4, 5, 6, 7, 8, 9, 10), "+ - * = < and or not null?"},
		{steps(api.EOps, 77, -1, math.MaxInt, math.MinInt), "? ? ? ? ?"},
		{steps(api.EAdd, 11, api.ENot, -1, num(1)), "+ ? not ? 1"},
		{repeated(nil, 101, do(api.EAdd)), strings.Repeat("+ ", 100) + "+"},
		{repeated(nil, 200000, do(api.ENot)), strings.Repeat("not ", 199999) + "not"},
	} {
		if got := Text(c.e); got != c.want {
			t.Errorf("%.80q, want %.80q", got, c.want)
		}
	}
}

// R4: arguments stay as they are, and a call leaves nothing for the next one.
func TestKeepsArguments(t *testing.T) {
	e := steps(col(0), num(1), api.EAdd, col(1), api.EMul, num(5), api.ELess, api.ENot)
	cols, row := []int{api.Int, api.Int}, api.Row{num(3), num(4)}
	eBefore, colsBefore, rowBefore := slices.Clone(e), slices.Clone(cols), slices.Clone(row)
	for range 3 {
		expectType(t, e, cols, api.Bool, api.OK)
		expectEval(t, e, row, yes, api.OK)
		expectWrong(t, steps(num(1), num(2), api.ENot), cols, row, api.ErrExprType)
		Text(e)
	}
	if !slices.Equal(e, eBefore) || !slices.Equal(cols, colsBefore) || !slices.Equal(row, rowBefore) {
		t.Error("arguments were changed")
	}
}
