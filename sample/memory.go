package sample

import (
	"slices"

	"levee/api"
)

// Fault tells what call does with memory that it must not do: change the bags that it is given or the room behind them, share memory with them, let two rows of its answer share memory, or answer differently when it is asked again. It is empty, if there is no such fault.
func Fault(call func(l ...api.Bag) api.Bag, l ...api.Bag) string {
	var given []api.Source
	for _, b := range l {
		given = append(given, api.Source{Rows: b})
	}
	return SourcesFault(func(given []api.Source) []api.Source {
		var bags []api.Bag
		for _, s := range given {
			bags = append(bags, s.Rows)
		}
		return []api.Source{{Rows: call(bags...)}}
	}, given)
}

// SourcesFault tells what call does with memory that it must not do, as Fault does, with the sources that it is given and that it answers, and with all their bags.
func SourcesFault(call func(l []api.Source) []api.Source, l []api.Source) string {
	given := sourcesBehind(l)
	first := call(given)
	want := CopySources(first)
	if !untouched(given, l) {
		return "what was given is changed"
	}
	if !SameSources(call(given), want) {
		return "asked again, it answers something else"
	}
	scribbleSources(given)
	if !SameSources(first, want) {
		return "the answer changes with what was given"
	}
	given = sourcesBehind(l)
	scribbleSources(call(given))
	if !untouched(given, l) {
		return "what was given changes with the answer"
	}
	for at := range want {
		if !rowsApart(call(sourcesBehind(l))[at].Rows, want[at].Rows) {
			return "rows of the answer change with each other"
		}
		if !bagsApart(call(sourcesBehind(l)), want, at) {
			return "bags of the answer change with each other"
		}
	}
	return ""
}

// rowsApart reports whether no row of got, which is as want, changes with one ahead of it.
func rowsApart(got, want api.Bag) bool {
	for i := range got {
		if !Same(got[i:i+1], want[i:i+1]) {
			return false
		}
		ScribbleRow(got[i].Row)
	}
	return true
}

// bagsApart reports whether no bag of got, which is as want, changes with the one at this place.
func bagsApart(got, want []api.Source, at int) bool {
	Scribble(got[at].Rows)
	return SameSources(got[:at], want[:at]) && SameSources(got[at+1:], want[at+1:])
}

// CatalogFault tells whether call changes the catalog that it is given, or the room behind one of its lists. It is empty, if it does not.
func CatalogFault(call func(c api.Catalog), c api.Catalog) string {
	given := catalogBehind(c)
	call(given)
	if !slices.EqualFunc(wholeCatalog(given), wholeCatalog(catalogBehind(c)), sameDef) {
		return "the catalog is changed"
	}
	return ""
}

// roomy returns a list as l, with room behind it that must not be written into.
func roomy[T any](l []T) []T { return append(make([]T, 0, len(l)+3), l...) }

// sourcesBehind returns sources as l, with room behind the list, behind each bag and behind each of its rows.
func sourcesBehind(l []api.Source) []api.Source {
	out := roomy(l)
	for i := range out {
		out[i].Rows = Behind(out[i].Rows)
	}
	return out
}

// untouched reports whether given is still what sourcesBehind made of l.
func untouched(given, l []api.Source) bool {
	if !SameSources(given, l) || !SameSources(given[:cap(given)], roomy(l)[:len(l)+3]) {
		return false
	}
	for i, s := range l {
		if !Same(Whole(given[i].Rows), Whole(Behind(s.Rows))) {
			return false
		}
	}
	return true
}

// Behind returns a bag as b, with room behind its list and behind each of its rows that must not be written into.
func Behind(b api.Bag) api.Bag {
	l := roomy(b)
	for i := range l {
		l[i].Row = roomy(l[i].Row)
	}
	return l
}

// Whole returns b with all the room behind it and behind its rows.
func Whole(b api.Bag) api.Bag {
	var l api.Bag
	for _, c := range b[:cap(b)] {
		l = append(l, api.Count{Row: c.Row[:cap(c.Row)], N: c.N})
	}
	return l
}

// catalogBehind returns a catalog as c, with room behind it and behind each of its lists.
func catalogBehind(c api.Catalog) api.Catalog {
	out := roomy(c)
	for i := range out {
		t, v := &out[i].Table, &out[i].View
		t.Cols, t.Checks = roomy(t.Cols), roomy(t.Checks)
		for j, e := range t.Checks {
			t.Checks[j] = roomy(e)
		}
		v.Where, v.Pick, v.Aggs = roomy(v.Where), roomy(v.Pick), roomy(v.Aggs)
	}
	return out
}

// wholeCatalog returns c with all the room behind it and behind its lists.
func wholeCatalog(c api.Catalog) api.Catalog {
	var out api.Catalog
	for _, d := range c[:cap(c)] {
		t, v := &d.Table, &d.View
		t.Cols = t.Cols[:cap(t.Cols)]
		var checks []api.Expr
		for _, e := range t.Checks[:cap(t.Checks)] {
			checks = append(checks, e[:cap(e)])
		}
		t.Checks = checks
		v.Where, v.Pick, v.Aggs = v.Where[:cap(v.Where)], v.Pick[:cap(v.Pick)], v.Aggs[:cap(v.Aggs)]
		out = append(out, d)
	}
	return out
}

// sameDef reports whether a and b hold the same.
func sameDef(a, b api.Def) bool {
	t, u, v, w := a.Table, b.Table, a.View, b.View
	sameTable := t.Name == u.Name && slices.Equal(t.Cols, u.Cols) && slices.EqualFunc(t.Checks, u.Checks, slices.Equal[api.Expr])
	sameOf := v.From == w.From && v.With == w.With && v.On == w.On && slices.Equal(v.Where, w.Where)
	return a.Kind == b.Kind && sameTable && v.Name == w.Name && sameOf && slices.Equal(v.Pick, w.Pick) && v.Group == w.Group && slices.Equal(v.Aggs, w.Aggs)
}

// scribbleSources writes over all that l holds, over its bags, and over what is behind them.
func scribbleSources(l []api.Source) {
	l = l[:cap(l)]
	for i := range l {
		Scribble(l[i].Rows)
		l[i] = api.Source{Name: "scribble", Rows: One(nil, -77)}
	}
}

// Scribble writes over all that b holds, and over what is behind it and behind its rows.
func Scribble(b api.Bag) {
	b = b[:cap(b)]
	for i := range b {
		ScribbleRow(b[i].Row)
		b[i] = api.Count{Row: api.Row{Text("scribble")}, N: -77}
	}
}

// ScribbleRow writes over r, and over what is behind it.
func ScribbleRow(r api.Row) {
	r = r[:cap(r)]
	for i := range r {
		r[i] = Text("scribble")
	}
}
