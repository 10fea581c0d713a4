package group

import (
	"levee/api"
	"levee/value"
)

// fold takes rows one after the other, and knows at the end what they come to.
type fold interface {
	// row takes a row that is there n times, whatever its values are.
	row(n int)
	// value takes that row's value in the column, which is never null.
	value(v api.Value, n int)
	result() (api.Value, api.Errno)
}

// folding returns what folds rows as the function fn asks for.
func folding(fn int) fold {
	switch fn {
	case api.FnCount:
		return &count{}
	case api.FnSum:
		return &sum{}
	case api.FnMin:
		return &extreme{better: -1}
	case api.FnMax:
		return &extreme{better: 1}
	}
	return nothing{}
}

// nothing makes null of all rows. The other folds embed it, so that each of them has of its own only what it looks at.
type nothing struct{}

func (nothing) row(int) {}

func (nothing) value(api.Value, int) {}

func (nothing) result() (api.Value, api.Errno) { return api.Value{}, api.OK }

// count counts the rows.
type count struct {
	nothing
	rows int
}

func (c *count) row(n int) { c.rows += n }

func (c *count) result() (api.Value, api.Errno) { return number(c.rows), api.OK }

const (
	// halfBits is how many bits the lower half of a number has.
	halfBits = 32
	lowHalf  = 1<<halfBits - 1
)

// sum adds the numbers. It keeps the sums of their upper and lower halves, which at most maxRows rows never make leave 64 bits, so that only the whole sum can be too great.
type sum struct {
	nothing
	some      bool
	high, low int
}

func (s *sum) value(v api.Value, n int) {
	if v.Kind != api.Int {
		return
	}
	s.some = true
	s.high += (v.N >> halfBits) * n
	s.low += (v.N & lowHalf) * n
}

func (s *sum) result() (api.Value, api.Errno) {
	if !s.some {
		return s.nothing.result()
	}
	high := s.high + s.low>>halfBits
	if high != int(int32(high)) {
		return api.Value{}, api.ErrQuerySum
	}
	return number(high<<halfBits | s.low&lowHalf), api.OK
}

// extreme finds the least or the greatest value; null, as long as there is none.
type extreme struct {
	nothing
	// better is how a value compares with the one that it takes the place of.
	better int
	found  api.Value
}

func (e *extreme) value(v api.Value, _ int) {
	if e.found.Kind == api.Null || value.Compare(v, e.found) == e.better {
		e.found = v
	}
}

func (e *extreme) result() (api.Value, api.Errno) { return e.found, api.OK }

func number(n int) api.Value { return api.Value{Kind: api.Int, N: n} }
