// Package value is layer 1: see shared/doc/01-value.md.
package value

import (
	"cmp"
	"math"
	"strconv"
	"strings"

	"levee/api"
)

// maxText is the greatest number of bytes of a valid text.
const maxText = 1000

// May reports whether v is valid.
func May(v api.Value) bool {
	switch v.Kind {
	case api.Null:
		return v.N == 0 && v.S == ""
	case api.Bool:
		return (v.N == 0 || v.N == 1) && v.S == ""
	case api.Int:
		return v.S == ""
	case api.Text:
		return v.N == 0 && len(v.S) <= maxText
	}
	return false
}

// Compare orders all values, also those that are not valid: by Kind, then by N, then by S.
func Compare(a, b api.Value) int {
	if a.Kind != b.Kind {
		return cmp.Compare(a.Kind, b.Kind)
	}
	if a.N != b.N {
		return cmp.Compare(a.N, b.N)
	}
	return strings.Compare(a.S, b.S)
}

// Truth returns the truth value of b.
func Truth(b bool) api.Value {
	if b {
		return api.Value{Kind: api.Bool, N: 1}
	}
	return api.Value{Kind: api.Bool}
}

// And returns the three-valued conjunction of its arguments.
func And(l ...api.Value) api.Value {
	return decide(Truth(false), l...)
}

// Or returns the three-valued disjunction of its arguments.
func Or(l ...api.Value) api.Value {
	return decide(Truth(true), l...)
}

// decide serves And and Or alike: one argument that is strong decides; else the opposite of strong needs all arguments.
func decide(strong api.Value, l ...api.Value) api.Value {
	weak := Not(strong)
	answer := weak
	for _, v := range l {
		if v == strong {
			return strong
		}
		if v != weak {
			answer = api.Value{}
		}
	}
	return answer
}

// Not returns the three-valued negation of a.
func Not(a api.Value) api.Value {
	if a == Truth(true) {
		return Truth(false)
	}
	if a == Truth(false) {
		return Truth(true)
	}
	return api.Value{}
}

// Add returns the sum of a and b; false, if there is none.
func Add(a, b api.Value) (api.Value, bool) {
	return compute(a, b, func() (int, bool) {
		sum := a.N + b.N
		return sum, (sum > a.N) == (b.N > 0)
	})
}

// Sub returns the difference of a and b; false, if there is none.
func Sub(a, b api.Value) (api.Value, bool) {
	return compute(a, b, func() (int, bool) {
		difference := a.N - b.N
		return difference, (difference < a.N) == (b.N > 0)
	})
}

// Mul returns the product of a and b; false, if there is none.
func Mul(a, b api.Value) (api.Value, bool) {
	return compute(a, b, func() (int, bool) {
		if a.N == 0 {
			return 0, true
		}
		// The one product whose wrap-round the division below does not show: MinInt / -1 wraps round as well.
		if a.N == -1 && b.N == math.MinInt {
			return 0, false
		}
		product := a.N * b.N
		return product, product/a.N == b.N
	})
}

// compute asks result, which also tells whether it fits into 64 bits, only where both operands are numbers.
func compute(a, b api.Value, result func() (int, bool)) (api.Value, bool) {
	if a.Kind == api.Null || b.Kind == api.Null {
		return api.Value{}, true
	}
	if a.Kind != api.Int || b.Kind != api.Int {
		return api.Value{}, false
	}
	n, fits := result()
	if !fits {
		return api.Value{}, false
	}
	return api.Value{Kind: api.Int, N: n}, true
}

// Text returns v in print.
func Text(v api.Value) string {
	switch v.Kind {
	case api.Null:
		return "null"
	case api.Bool:
		if v.N == 0 {
			return "false"
		}
		return "true"
	case api.Int:
		return strconv.Itoa(v.N)
	case api.Text:
		return "'" + strings.ReplaceAll(v.S, "'", "''") + "'"
	}
	return "?"
}
