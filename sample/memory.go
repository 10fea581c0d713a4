package sample

import (
	"levee/api"
)

// Fault tells what call does with memory that it must not do: change the bags that it is given or the room behind them, share memory with them, let two rows of its answer share memory, or answer differently when it is asked again. It is empty, if there is no such fault.
func Fault(call func(l ...api.Bag) api.Bag, l ...api.Bag) string {
	given := allBehind(l)
	first := call(given...)
	want := Copy(first)
	if !allSame(given, l) {
		return "what was given is changed"
	}
	if !Same(call(given...), want) {
		return "asked again, it answers something else"
	}
	for _, b := range given {
		Scribble(b)
	}
	if !Same(first, want) {
		return "the answer changes with what was given"
	}
	given = allBehind(l)
	Scribble(call(given...))
	if !allSame(given, l) {
		return "what was given changes with the answer"
	}
	return rowsApart(call(allBehind(l)...), want)
}

// rowsApart tells whether a row of got, which is as want, changes with one ahead of it.
func rowsApart(got, want api.Bag) string {
	for i := range got {
		if !Same(got[i:i+1], want[i:i+1]) {
			return "rows of the answer change with each other"
		}
		ScribbleRow(got[i].Row)
	}
	return ""
}

// allBehind returns all bags of l with room behind them.
func allBehind(l []api.Bag) []api.Bag {
	var out []api.Bag
	for _, b := range l {
		out = append(out, Behind(b))
	}
	return out
}

// allSame reports whether given is still what allBehind made of l.
func allSame(given, l []api.Bag) bool {
	for i, b := range l {
		if !Same(given[i], b) || !Same(Whole(given[i]), Whole(Behind(b))) {
			return false
		}
	}
	return true
}

// Behind returns a bag as b, with room behind its list and behind each of its rows that must not be written into.
func Behind(b api.Bag) api.Bag {
	l := make(api.Bag, 0, len(b)+3)
	for _, c := range b {
		l = append(l, api.Count{Row: append(make(api.Row, 0, len(c.Row)+3), c.Row...), N: c.N})
	}
	return l
}

// Whole returns b with all the room behind it and behind its rows.
func Whole(b api.Bag) api.Bag {
	var l api.Bag
	for _, c := range b[:cap(b)] {
		l = append(l, api.Count{Row: c.Row[:cap(c.Row)], N: c.N})
	}
	return l
}

// Scribble writes over all that b holds, and over what is behind it and behind its rows.
func Scribble(b api.Bag) {
	b = b[:cap(b)]
	for i := range b {
		ScribbleRow(b[i].Row)
		b[i] = api.Count{Row: api.Row{Text("scribble")}, N: -77}
	}
}

// ScribbleRow writes over r, and over what is behind it.
func ScribbleRow(r api.Row) {
	r = r[:cap(r)]
	for i := range r {
		r[i] = Text("scribble")
	}
}
