package sample

import (
	"slices"
	"strconv"

	"levee/api"
	"levee/ddl"
)

// Def returns the definition that s holds. It panics where there is none, since a test that names such a definition is wrong.
func Def(s string) api.Def {
	d, bad := ddl.Parse(s)
	if bad != api.OK {
		panic("no definition: " + s + ": error " + strconv.Itoa(int(bad)))
	}
	return d
}

// Catalog holds these definitions as they stand: whether it is valid is another question.
func Catalog(texts ...string) api.Catalog {
	var c api.Catalog
	for _, s := range texts {
		c = append(c, Def(s))
	}
	return c
}

// Sources returns sources of names and bags in turn, each bag as Bag reads it.
func Sources(l ...string) []api.Source {
	var out []api.Source
	for pair := range slices.Chunk(l, 2) {
		out = append(out, api.Source{Name: pair[0], Rows: Bag(pair[1])})
	}
	return out
}

// SameSources reports whether a and b hold the same names with the same bags, in the same order.
func SameSources(a, b []api.Source) bool {
	return slices.EqualFunc(a, b, func(x, y api.Source) bool { return x.Name == y.Name && Same(x.Rows, y.Rows) })
}

// CopySources returns l in new memory.
func CopySources(l []api.Source) []api.Source {
	var out []api.Source
	for _, s := range l {
		out = append(out, api.Source{Name: s.Name, Rows: Copy(s.Rows)})
	}
	return out
}

// ShowSources returns what a test tells of l.
func ShowSources(l []api.Source) string {
	s := ""
	for _, x := range l[:min(len(l), 30)] {
		s += strconv.Quote(x.Name) + " " + Show(x.Rows) + " "
	}
	return strconv.Itoa(len(l)) + " of " + s
}
