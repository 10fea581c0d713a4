package schema

import (
	"slices"

	"levee/api"
	"levee/ddl"
	"levee/expr"
)

const (
	// maxDefs is the greatest number of definitions of a catalog.
	maxDefs = 20
	// maxCols is the greatest number of columns of a view.
	maxCols = 40
)

// source is what later definitions ask of a table or a view: its name and its columns.
type source struct {
	name  string
	table bool
	kinds []int
	null  []bool
}

// find returns the source with this name.
func find(l []source, name string) (source, bool) {
	at := slices.IndexFunc(l, func(s source) bool { return s.name == name })
	if at < 0 {
		return source{}, false
	}
	return l[at], true
}

// sourcesOf returns what each definition of c is; false, if one of them cannot be behind those ahead of it.
func sourcesOf(c api.Catalog) ([]source, bool) {
	var l []source
	for _, d := range c {
		s, bad := sourceOf(l, d)
		if bad != api.OK {
			return nil, false
		}
		l = append(l, s)
	}
	return l, true
}

// sourceOf returns what d is, where l holds all that it may refer to; the error, if d cannot be there.
func sourceOf(l []source, d api.Def) (source, api.Errno) {
	switch {
	case !ddl.May(d):
		return source{}, api.ErrArg
	case len(l) == maxDefs:
		return source{}, api.ErrSchemaMany
	case slices.ContainsFunc(l, func(s source) bool { return isNamed(d, s.name) }):
		return source{}, api.ErrSchemaName
	case d.Kind == api.DefTable:
		return tableOf(l, d.Table)
	}
	return viewOf(l, d.View)
}

func tableOf(l []source, t api.Table) (source, api.Errno) {
	own := source{name: t.Name, table: true}
	for _, c := range t.Cols {
		own.kinds = append(own.kinds, c.Kind)
		own.null = append(own.null, c.Null)
	}
	// A table may refer to itself.
	all := slices.Concat(l, []source{own})
	switch {
	case !isKey(t.Cols[0]) || sharesName(t.Cols):
		return source{}, api.ErrSchemaCol
	case slices.ContainsFunc(t.Cols, func(c api.Column) bool { return !refFits(all, c) }):
		return source{}, api.ErrSchemaRef
	case slices.ContainsFunc(t.Checks, func(e api.Expr) bool { return !isTruth(e, own.kinds) }):
		return source{}, api.ErrSchemaCheck
	}
	return own, api.OK
}

// isKey reports whether c may be a table's first column.
func isKey(c api.Column) bool {
	return !c.Null && c.Kind != api.Bool && c.Ref == ""
}

func sharesName(cols []api.Column) bool {
	for i, c := range cols {
		if slices.ContainsFunc(cols[:i], func(ahead api.Column) bool { return ahead.Name == c.Name }) {
			return true
		}
	}
	return false
}

// refFits reports whether c refers to nothing, or to a table of l whose keys are of its kind.
func refFits(l []source, c api.Column) bool {
	if c.Ref == "" {
		return true
	}
	to, ok := find(l, c.Ref)
	return ok && to.table && to.kinds[0] == c.Kind && (c.Act != api.SetNull || c.Null)
}

// isTruth reports whether e results in a truth value or null, where kinds are those of the columns.
func isTruth(e api.Expr, kinds []int) bool {
	kind, bad := expr.Type(e, kinds)
	return bad == api.OK && (kind == api.Bool || kind == api.Null)
}

func viewOf(l []source, v api.View) (source, api.Errno) {
	from, ok := joined(l, v)
	if !ok || len(v.Where) > 0 && !isTruth(v.Where, from) || len(v.Aggs) > 0 && !v.Group {
		return source{}, api.ErrSchemaView
	}
	own := source{name: v.Name, kinds: results(v, from)}
	if n := len(own.kinds); n == 0 || n > maxCols || slices.Contains(own.kinds, api.Null) {
		return source{}, api.ErrSchemaView
	}
	own.null = slices.Repeat([]bool{true}, len(own.kinds))
	return own, api.OK
}

// joined returns the kinds of the columns that v is of; false, if there is no such source, or v joins by columns that it cannot join by.
func joined(l []source, v api.View) ([]int, bool) {
	from, ok := find(l, v.From)
	if !ok || v.With == "" {
		return from.kinds, ok
	}
	with, ok := find(l, v.With)
	kind := kindAt(from.kinds, v.On[0])
	if !ok || kind == api.Null || kind != kindAt(with.kinds, v.On[1]) {
		return nil, false
	}
	return slices.Concat(from.kinds, with.kinds), true
}

// results returns the kinds of v's columns, where from holds those of the columns that it is of; api.Null for a column that cannot be.
func results(v api.View, from []int) []int {
	var kinds []int
	for _, at := range v.Pick {
		kinds = append(kinds, kindAt(from, at))
	}
	for _, a := range v.Aggs {
		kinds = append(kinds, aggKind(a, from))
	}
	return kinds
}

func aggKind(a api.Agg, from []int) int {
	if a.Fn == api.FnCount {
		return api.Int
	}
	kind := kindAt(from, a.Col)
	if a.Fn == api.FnSum && kind != api.Int {
		return api.Null
	}
	return kind
}

// kindAt returns the kind of a column; api.Null, which no column has, if it does not exist.
func kindAt(kinds []int, at int) int {
	if at < 0 || at >= len(kinds) {
		return api.Null
	}
	return kinds[at]
}
