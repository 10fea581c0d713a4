package sample

import (
	"testing"

	"levee/api"
	"levee/bag"
)

// Bag reads what bag.Text writes.
func TestBag(t *testing.T) {
	for _, s := range []string{"", "()", "()*-3", "(null, true, false, -5, 'it''s')*2 (1) ('')*1000000000"} {
		if got := bag.Text(Bag(s)); got != s {
			t.Errorf("%q: %q", s, got)
		}
	}
	if got := bag.Text(Bag("(2) (1) (2)")); got != "(1) (2)*2" {
		t.Error(got)
	}
	for _, s := range []string{"(1)*0", "(1)*1000000001", "'", "(null, nil)"} {
		func() {
			defer func() {
				if recover() == nil {
					t.Errorf("%q is a bag", s)
				}
			}()
			Bag(s)
		}()
	}
}

// Bags leaves no bag out.
func TestBags(t *testing.T) {
	rows := []api.Row{nil, {Num(1)}, {Num(2)}}
	if got := len(Bags(3, rows, 1, -1)); got != 27 {
		t.Error(got)
	}
	if got := len(Bags(2, rows, 1)); got != 7 {
		t.Error(got)
	}
	for _, b := range Bags(3, rows, 1, -1) {
		if !bag.May(b) || len(b) > 0 && !Same(b, bag.Plus(b)) {
			t.Error(Show(b))
		}
	}
}

// Invalid holds no bag that is valid.
func TestInvalid(t *testing.T) {
	for _, b := range Invalid() {
		if bag.May(b) {
			t.Error(Show(b))
		}
	}
}

// Same finds each difference, and Behind hides its room.
func TestSame(t *testing.T) {
	b := Bag("(1, 2)*3 (4)")
	for _, s := range []string{"", "(1, 2)*3", "(1, 2)*3 (5)", "(1, 2)*2 (4)", "(1)*3 (4)", "(1, 2)*3 (4) (5)"} {
		if Same(b, Bag(s)) || Same(Bag(s), b) {
			t.Error(s)
		}
	}
	if behind := Behind(b); !Same(b, behind) || Same(b, Whole(behind)) {
		t.Error(Show(behind))
	}
	copied := Copy(b)
	Scribble(copied)
	if !Same(b, Bag("(1, 2)*3 (4)")) || Same(b, copied) || Total(b) != 4 {
		t.Error(Show(b), Show(copied))
	}
}

// Fault finds each fault.
func TestFault(t *testing.T) {
	var kept api.Bag
	for name, call := range map[string]func(l ...api.Bag) api.Bag{
		"what was given is changed":                 func(l ...api.Bag) api.Bag { l[0][0].Row[0] = Num(7); return nil },
		"what was given changes with the answer":    func(l ...api.Bag) api.Bag { return One(l[0][0].Row[:0], 1) },
		"the answer changes with what was given":    func(l ...api.Bag) api.Bag { return l[1] },
		"asked again, it answers something else":    func(l ...api.Bag) api.Bag { kept = append(kept, One(nil, 1)...); return kept },
		"rows of the answer change with each other": func(l ...api.Bag) api.Bag { r := make(api.Row, 4); return api.Bag{{Row: r[:1]}, {Row: r[1:3]}} },
		"": func(l ...api.Bag) api.Bag { return bag.Plus(l...) },
	} {
		if got := Fault(call, Bag("(1, 2)*3 (4)"), Bag("(5)")); got != name {
			t.Errorf("%q, not %q", got, name)
		}
	}
	for _, change := range []func(b api.Bag){
		func(b api.Bag) { b[0].N++ },
		func(b api.Bag) { b[1].Row = nil },
		func(b api.Bag) { b[1].Row = b[1].Row[:2] },
		func(b api.Bag) { b[1].Row = append(b[1].Row, Num(1)) },
		func(b api.Bag) { _ = append(b[1].Row, Num(1)) },
		func(b api.Bag) { _ = append(b, api.Count{N: 1}) },
	} {
		if Fault(func(l ...api.Bag) api.Bag { change(l[1]); return nil }, nil, Bag("(1, 2)*3 (4)")) == "" {
			t.Error("no fault")
		}
	}
}

// SourcesFault finds each fault, in the list, in a bag and in a row.
func TestSourcesFault(t *testing.T) {
	var kept []api.Source
	for want, calls := range map[string][]func(l []api.Source) []api.Source{
		"what was given is changed": {
			func(l []api.Source) []api.Source { l[1].Name = "x"; return nil },
			func(l []api.Source) []api.Source { l[1].Rows = nil; return nil },
			func(l []api.Source) []api.Source { l[0].Rows[1].N++; return nil },
			func(l []api.Source) []api.Source { l[0].Rows[1].Row[0] = Num(7); return nil },
			func(l []api.Source) []api.Source { _ = append(l, api.Source{Name: "x"}); return nil },
			func(l []api.Source) []api.Source { _ = append(l[0].Rows, api.Count{N: 1}); return nil },
			func(l []api.Source) []api.Source { _ = append(l[0].Rows[1].Row, Num(7)); return nil },
		},
		"asked again, it answers something else": {
			func(l []api.Source) []api.Source { kept = append(kept, Sources("x", "")...); return kept },
			func(l []api.Source) []api.Source {
				kept = append(kept, api.Source{})
				return Sources("x", "()")[len(kept)%2:]
			},
		},
		"the answer changes with what was given": {
			func(l []api.Source) []api.Source { return l },
			func(l []api.Source) []api.Source { return []api.Source{{Rows: l[0].Rows}} },
			func(l []api.Source) []api.Source { return []api.Source{{}, {Rows: One(l[0].Rows[1].Row, 1)}} },
		},
		"what was given changes with the answer": {
			func(l []api.Source) []api.Source { return l[:0] },
			func(l []api.Source) []api.Source { return []api.Source{{Rows: l[0].Rows[:0]}} },
			func(l []api.Source) []api.Source { return []api.Source{{Rows: One(l[0].Rows[1].Row[:0], 1)}} },
		},
		"rows of the answer change with each other": {
			func(l []api.Source) []api.Source {
				r := api.Row{Num(1), Num(2)}
				return []api.Source{{Rows: api.Bag{{Row: r[:1], N: 1}, {Row: r, N: 1}}}}
			},
		},
		"bags of the answer change with each other": {
			func(l []api.Source) []api.Source { b := Bag("(1) (2)"); return []api.Source{{Rows: b}, {}, {Rows: b}} },
			func(l []api.Source) []api.Source {
				b := Bag("(1) (2)")
				return []api.Source{{Rows: b[:1]}, {Rows: b[1:]}}
			},
			func(l []api.Source) []api.Source {
				b := Bag("(1) (2)")
				return []api.Source{{Rows: b[1:]}, {Rows: b[:1]}}
			},
			func(l []api.Source) []api.Source {
				r := api.Row{Num(1)}
				return []api.Source{{Rows: One(r, 1)}, {Rows: One(r, 2)}}
			},
		},
		"": {
			CopySources,
			func(l []api.Source) []api.Source { return nil },
		},
	} {
		for i, call := range calls {
			kept = nil
			if got := SourcesFault(call, Sources("a", "(1, 2)*3 (4)", "b", "(5)")); got != want {
				t.Errorf("%q of call %d, not %q", got, i, want)
			}
		}
	}
}

// CatalogFault finds each change of a list, and of the room behind it.
func TestCatalogFault(t *testing.T) {
	c := Catalog("table t(k int, n int null) check [c0 1 <]", "view v from t where [c1 2 <] pick 0, 1 group count, sum 1")
	for i, change := range []func(c api.Catalog){
		func(c api.Catalog) { c[1].Kind = 0 },
		func(c api.Catalog) { c[0].Table.Name = "x" },
		func(c api.Catalog) { c[1].View.Name = "x" },
		func(c api.Catalog) { c[1].View.From = "x" },
		func(c api.Catalog) { c[1].View.With = "x" },
		func(c api.Catalog) { c[1].View.On[1] = 1 },
		func(c api.Catalog) { c[1].View.Where = nil },
		func(c api.Catalog) { c[1].View.Group = false },
		func(c api.Catalog) { _ = append(c, api.Def{Kind: 1}) },
		func(c api.Catalog) { c[0].Table.Cols[1].Name = "x" },
		func(c api.Catalog) { _ = append(c[0].Table.Cols, api.Column{Name: "x"}) },
		func(c api.Catalog) { _ = append(c[0].Table.Checks, make(api.Expr, 1)) },
		func(c api.Catalog) { c[0].Table.Checks[0][2].Op = api.EEq },
		func(c api.Catalog) { _ = append(c[0].Table.Checks[0], api.Node{Op: 1}) },
		func(c api.Catalog) { _ = append(c[1].View.Where, api.Node{Op: 1}) },
		func(c api.Catalog) { _ = append(c[1].View.Pick, 1) },
		func(c api.Catalog) { c[1].View.Pick[0] = 1 },
		func(c api.Catalog) { _ = append(c[1].View.Aggs, api.Agg{Fn: 1}) },
	} {
		if CatalogFault(change, c) == "" {
			t.Error("no fault", i)
		}
	}
	if got := CatalogFault(func(c api.Catalog) {}, c); got != "" {
		t.Error(got)
	}
}

// SameSources finds each difference; Sources, Catalog and CopySources leave nothing out.
func TestSources(t *testing.T) {
	l := Sources("a", "(1)*2", "", "")
	if want := []api.Source{{Name: "a", Rows: One(api.Row{Num(1)}, 2)}, {}}; !SameSources(l, want) || !SameSources(CopySources(l), want) {
		t.Error(ShowSources(l))
	}
	for _, other := range [][]api.Source{nil, Sources("a", "(1)*2"), Sources("b", "(1)*2", "", ""), Sources("a", "(1)", "", ""), Sources("a", "(1)*2", "", "()"), Sources("a", "(1)*2", "", "", "", "")} {
		if SameSources(l, other) || SameSources(other, l) {
			t.Error(ShowSources(other))
		}
	}
	c := Catalog("table t(k int)", "view v from t pick 0")
	if len(c) != 2 || c[0].Table.Name != "t" || c[1].View.Name != "v" {
		t.Error(c)
	}
	defer func() {
		if recover() == nil {
			t.Error("a definition of nothing")
		}
	}()
	Def("view v")
}
