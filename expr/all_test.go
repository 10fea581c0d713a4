package expr

import (
	"math"
	"math/big"
	"testing"

	"levee/api"
	"levee/value"
)

// operation is what the chapter says of a step that has operands: their number, the kind of the result (negative, if their kinds are not those stated), the value.
type operation struct {
	takes int
	kind  func(a, b int) int
	value func(a, b api.Value) (api.Value, bool)
}

func ofNumbers(exact func(z, x, y *big.Int) *big.Int) operation {
	return operation{2, only(api.Int), func(a, b api.Value) (api.Value, bool) {
		if a.Kind == api.Null || b.Kind == api.Null {
			return null, true
		}
		n := exact(new(big.Int), big.NewInt(int64(a.N)), big.NewInt(int64(b.N)))
		if !n.IsInt64() {
			return null, false
		}
		return num(int(n.Int64())), true
	}}
}

func ofPairs(is func(a, b api.Value) bool) operation {
	kind := func(a, b int) int {
		if a == b || a == api.Null || b == api.Null {
			return api.Bool
		}
		return -1
	}
	return operation{2, kind, func(a, b api.Value) (api.Value, bool) {
		if a.Kind == api.Null || b.Kind == api.Null {
			return null, true
		}
		return value.Truth(is(a, b)), true
	}}
}

func ofTruths(takes int, do func(a, b api.Value) api.Value) operation {
	return operation{takes, only(api.Bool), func(a, b api.Value) (api.Value, bool) { return do(a, b), true }}
}

func only(kind int) func(a, b int) int {
	return func(a, b int) int {
		if (a == kind || a == api.Null) && (b == kind || b == api.Null) {
			return kind
		}
		return -1
	}
}

func operations() map[int]operation {
	return map[int]operation{
		api.EAdd:  ofNumbers((*big.Int).Add),
		api.ESub:  ofNumbers((*big.Int).Sub),
		api.EMul:  ofNumbers((*big.Int).Mul),
		api.EEq:   ofPairs(func(a, b api.Value) bool { return a == b }),
		api.ELess: ofPairs(func(a, b api.Value) bool { return value.Compare(a, b) == -1 }),
		api.EAnd:  ofTruths(2, func(a, b api.Value) api.Value { return value.And(a, b) }),
		api.EOr:   ofTruths(2, func(a, b api.Value) api.Value { return value.Or(a, b) }),
		api.ENot:  ofTruths(1, func(a, _ api.Value) api.Value { return value.Not(a) }),
		api.EIsNull: {1, func(a, b int) int { return api.Bool }, func(a, _ api.Value) (api.Value, bool) {
			return value.Truth(a.Kind == api.Null), true
		}},
	}
}

// state is what the steps ahead have come to, word for word as the chapter says it: the kinds and the values on the stack, and the first error of each.
type state struct {
	kinds  []int
	values []api.Value
	badK   api.Errno
	badV   api.Errno
}

// after is the state behind one more step. It shares no memory with s, so that many expressions can begin alike.
func (s state) after(n api.Node, known map[int]operation, cols []int, row api.Row) state {
	if s.badK == api.OK {
		s.kinds, s.badK = kindsAfter(s.kinds, n, known, cols)
	}
	if s.badV == api.OK {
		s.values, s.badV = valuesAfter(s.values, n, known, row)
	}
	return s
}

func kindsAfter(l []int, n api.Node, known map[int]operation, cols []int) ([]int, api.Errno) {
	with := func(rest []int, kind int) ([]int, api.Errno) {
		return append(rest[:len(rest):len(rest)], kind), api.OK
	}
	op, isOp := known[n.Op]
	switch {
	case n.Op == api.ECol && n.N >= 0 && n.N < len(cols) && cols[n.N] >= 1 && cols[n.N] <= 3:
		return with(l, cols[n.N])
	case n.Op == api.EConst && value.May(n.V):
		return with(l, n.V.Kind)
	case isOp && len(l) >= op.takes:
		rest, taken := l[:len(l)-op.takes], l[len(l)-op.takes:]
		second := api.Null
		if op.takes == 2 {
			second = taken[1]
		}
		if kind := op.kind(taken[0], second); kind >= 0 {
			return with(rest, kind)
		}
	}
	return nil, api.ErrExprType
}

func valuesAfter(l []api.Value, n api.Node, known map[int]operation, row api.Row) ([]api.Value, api.Errno) {
	with := func(rest []api.Value, v api.Value) ([]api.Value, api.Errno) {
		return append(rest[:len(rest):len(rest)], v), api.OK
	}
	op, isOp := known[n.Op]
	switch {
	case n.Op == api.ECol && n.N >= 0 && n.N < len(row):
		return with(l, row[n.N])
	case n.Op == api.EConst && value.May(n.V):
		return with(l, n.V)
	case isOp && len(l) >= op.takes:
		rest, taken := l[:len(l)-op.takes], l[len(l)-op.takes:]
		second := null
		if op.takes == 2 {
			second = taken[1]
		}
		if op.kind(taken[0].Kind, second.Kind) < 0 {
			return nil, api.ErrExprType
		}
		v, fits := op.value(taken[0], second)
		if !fits {
			return nil, api.ErrExprOverflow
		}
		return with(rest, v)
	}
	return nil, api.ErrExprType
}

// ends returns what Type and Eval answer where no more steps come.
func (s state) ends() (kind int, badK api.Errno, v api.Value, badV api.Errno) {
	badK, badV = s.badK, s.badV
	if badK == api.OK && len(s.kinds) != 1 {
		badK = api.ErrExprType
	}
	if badV == api.OK && len(s.values) != 1 {
		badV = api.ErrExprType
	}
	if badK == api.OK {
		kind = s.kinds[0]
	}
	if badV == api.OK {
		v = s.values[0]
	}
	return kind, badK, v, badV
}

// checkAll holds all expressions of up to most steps of the alphabet against what the chapter says, for one row.
func checkAll(t *testing.T, alphabet []api.Node, most int, cols []int, row api.Row) {
	known := operations()
	var extend func(e api.Expr, s state)
	extend = func(e api.Expr, s state) {
		kind, badK, v, badV := s.ends()
		gotKind, gotBadK := Type(e, cols)
		gotV, gotBadV := Eval(e, row)
		if gotKind != kind || gotBadK != badK {
			t.Fatalf("Type of %q with columns %v: %d, error %d; want %d, error %d", Text(e), cols, gotKind, gotBadK, kind, badK)
		}
		if gotV != v || gotBadV != badV {
			t.Fatalf("Eval of %q for %v: %#v, error %d; want %#v, error %d", Text(e), row, gotV, gotBadV, v, badV)
		}
		checkKept(t, e, cols, row)
		if len(e) == most {
			return
		}
		for _, n := range alphabet {
			extend(append(e[:len(e):len(e)], n), s.after(n, known, cols, row))
		}
	}
	extend(nil, state{})
}

// checkKept is P3.4 for one row, which fits the columns where their kinds are kinds of columns.
func checkKept(t *testing.T, e api.Expr, cols []int, row api.Row) {
	kind, bad := Type(e, cols)
	if bad != api.OK || len(row) < len(cols) {
		return
	}
	for i, v := range row {
		if v.Kind != api.Null && (i >= len(cols) || v.Kind != cols[i]) {
			return
		}
	}
	v, bad := Eval(e, row)
	if bad != api.ErrExprOverflow && (bad != api.OK || v != null && v.Kind != kind) {
		t.Fatalf("%q is of kind %d, but for %v: %#v, error %d", Text(e), kind, row, v, bad)
	}
}

// allOps are the operations as steps.
func allOps() []api.Node {
	var l []api.Node
	for _, op := range ops() {
		l = append(l, do(op))
	}
	return l
}

// P3.1, P3.2, P3.4: all expressions of up to four steps, with operands of all kinds, and wrong ones.
func TestAllShort(t *testing.T) {
	alphabet := append(allOps(), do(99), do(-1), col(0), col(1), col(2), col(3), col(-1),
		constOf(null), constOf(yes), constOf(num(1)), constOf(num(math.MaxInt)), constOf(text("a")), constOf(api.Value{Kind: 9}))
	cols := []int{api.Int, api.Text, api.Bool}
	for _, row := range []api.Row{
		{num(math.MinInt), text("b"), no},
		{null, text("a"), yes},
		{num(1), null, null, num(5)},
		{text("a"), num(math.MaxInt), {Kind: api.Bool, N: 2}},
		nil,
	} {
		checkAll(t, alphabet, 4, cols, row)
	}
	checkAll(t, alphabet, 3, []int{api.Null, api.Kinds, -1, api.Int}, api.Row{null, {Kind: 4}, {Kind: -1}, num(2)})
	checkAll(t, alphabet, 3, nil, api.Row{num(1), text("a"), yes, null})
}

// P3.1, P3.2, P3.4: longer expressions of fewer operands, which reach operations of what operations left.
func TestAllLonger(t *testing.T) {
	alphabet := append(allOps(), col(0), constOf(num(-1)), constOf(no))
	for _, row := range []api.Row{{num(math.MinInt)}, {num(2)}, {null}} {
		checkAll(t, alphabet, 5, []int{api.Int}, row)
	}
}
