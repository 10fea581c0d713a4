package sample

import (
	"testing"

	"levee/api"
	"levee/bag"
)

// Bag reads what bag.Text writes.
func TestBag(t *testing.T) {
	for _, s := range []string{"", "()", "()*-3", "(null, true, false, -5, 'it''s')*2 (1) ('')*1000000000"} {
		if got := bag.Text(Bag(s)); got != s {
			t.Errorf("%q: %q", s, got)
		}
	}
	if got := bag.Text(Bag("(2) (1) (2)")); got != "(1) (2)*2" {
		t.Error(got)
	}
	for _, s := range []string{"(1)*0", "(1)*1000000001", "'", "(null, nil)"} {
		func() {
			defer func() {
				if recover() == nil {
					t.Errorf("%q is a bag", s)
				}
			}()
			Bag(s)
		}()
	}
}

// Bags leaves no bag out.
func TestBags(t *testing.T) {
	rows := []api.Row{nil, {Num(1)}, {Num(2)}}
	if got := len(Bags(3, rows, 1, -1)); got != 27 {
		t.Error(got)
	}
	if got := len(Bags(2, rows, 1)); got != 7 {
		t.Error(got)
	}
	for _, b := range Bags(3, rows, 1, -1) {
		if !bag.May(b) || len(b) > 0 && !Same(b, bag.Plus(b)) {
			t.Error(Show(b))
		}
	}
}

// Invalid holds no bag that is valid.
func TestInvalid(t *testing.T) {
	for _, b := range Invalid() {
		if bag.May(b) {
			t.Error(Show(b))
		}
	}
}

// Same finds each difference, and Behind hides its room.
func TestSame(t *testing.T) {
	b := Bag("(1, 2)*3 (4)")
	for _, s := range []string{"", "(1, 2)*3", "(1, 2)*3 (5)", "(1, 2)*2 (4)", "(1)*3 (4)", "(1, 2)*3 (4) (5)"} {
		if Same(b, Bag(s)) || Same(Bag(s), b) {
			t.Error(s)
		}
	}
	if behind := Behind(b); !Same(b, behind) || Same(b, Whole(behind)) {
		t.Error(Show(behind))
	}
	copied := Copy(b)
	Scribble(copied)
	if !Same(b, Bag("(1, 2)*3 (4)")) || Same(b, copied) || Total(b) != 4 {
		t.Error(Show(b), Show(copied))
	}
}

// Fault finds each fault.
func TestFault(t *testing.T) {
	var kept api.Bag
	for name, call := range map[string]func(l ...api.Bag) api.Bag{
		"what was given is changed":                 func(l ...api.Bag) api.Bag { l[0][0].Row[0] = Num(7); return nil },
		"what was given changes with the answer":    func(l ...api.Bag) api.Bag { return One(l[0][0].Row[:0], 1) },
		"the answer changes with what was given":    func(l ...api.Bag) api.Bag { return l[1] },
		"asked again, it answers something else":    func(l ...api.Bag) api.Bag { kept = append(kept, One(nil, 1)...); return kept },
		"rows of the answer change with each other": func(l ...api.Bag) api.Bag { r := make(api.Row, 4); return api.Bag{{Row: r[:1]}, {Row: r[1:3]}} },
		"": func(l ...api.Bag) api.Bag { return bag.Plus(l...) },
	} {
		if got := Fault(call, Bag("(1, 2)*3 (4)"), Bag("(5)")); got != name {
			t.Errorf("%q, not %q", got, name)
		}
	}
	for _, change := range []func(b api.Bag){
		func(b api.Bag) { b[0].N++ },
		func(b api.Bag) { b[1].Row = nil },
		func(b api.Bag) { b[1].Row = b[1].Row[:2] },
		func(b api.Bag) { b[1].Row = append(b[1].Row, Num(1)) },
		func(b api.Bag) { _ = append(b[1].Row, Num(1)) },
		func(b api.Bag) { _ = append(b, api.Count{N: 1}) },
	} {
		if Fault(func(l ...api.Bag) api.Bag { change(l[1]); return nil }, nil, Bag("(1, 2)*3 (4)")) == "" {
			t.Error("no fault")
		}
	}
}
