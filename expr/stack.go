package expr

import "levee/api"

// stack holds what an expression's steps have left so far: kinds, or values.
type stack[T any] struct {
	items []T
}

func (s *stack[T]) push(item T) {
	s.items = append(s.items, item)
}

// pop takes the last n items, in the order in which they were pushed; false, if there are fewer. The next push overwrites them.
func (s *stack[T]) pop(n int) ([]T, bool) {
	rest := len(s.items) - n
	if rest < 0 {
		return nil, false
	}
	taken := s.items[rest:]
	s.items = s.items[:rest]
	return taken, true
}

// result returns the one item that is left at the end.
func (s *stack[T]) result() (T, api.Errno) {
	if len(s.items) != 1 {
		var none T
		return none, api.ErrExprType
	}
	return s.items[0], api.OK
}
