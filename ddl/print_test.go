package ddl

import (
	"slices"
	"strconv"
	"strings"
	"testing"

	"levee/api"
	"levee/value"
)

// printer writes definitions as the chapter says, and asks of each part whether the grammar has it.
type printer struct {
	words []string
	wrong bool
}

func (p *printer) add(ok bool, words ...string) {
	p.wrong = p.wrong || !ok
	p.words = append(p.words, words...)
}

// one writes the word at this place.
func (p *printer) one(at int, words ...string) {
	ok := at >= 0 && at < len(words)
	if !ok {
		at = 0
	}
	p.add(ok, words[at])
}

func (p *printer) name(s string) {
	ok := len(s) >= 1 && len(s) <= 30 && s[0] >= 'a' && s[0] <= 'z' && strings.Trim(s, "abcdefghijklmnopqrstuvwxyz0123456789_") == "" && !slices.Contains(quotedWords, s)
	p.add(ok, s)
}

func (p *printer) col(n int) { p.add(n >= 0 && n <= 99, strconv.Itoa(n)) }

func (p *printer) expr(e api.Expr) {
	p.add(len(e) <= 100, "[")
	for _, n := range e {
		p.step(n)
	}
	p.add(true, "]")
}

func (p *printer) step(n api.Node) {
	switch n.Op {
	case api.ECol:
		p.add(n.N >= 0 && n.N <= 99 && n.V == api.Value{}, "c"+strconv.Itoa(n.N))
	case api.EConst:
		p.add(n.N == 0 && value.May(n.V), value.Text(n.V))
	case api.EIsNull:
		p.add(n == api.Node{Op: n.Op}, "null", "?")
	default:
		p.add(n == api.Node{Op: n.Op})
		p.one(n.Op-api.EAdd, "+", "-", "*", "=", "<", "and", "or", "not")
	}
}

func (p *printer) table(d api.Table) {
	p.add(len(d.Cols) >= 1 && len(d.Cols) <= 40 && len(d.Checks) <= 40, "table")
	p.name(d.Name)
	for i, c := range d.Cols {
		p.add(true, []string{"(", ","}[min(i, 1)])
		p.name(c.Name)
		p.one(c.Kind-1, "bool", "int", "text")
		if c.Null {
			p.add(true, "null")
		}
		if c.Unique {
			p.add(true, "unique")
		}
		if c.Ref == "" {
			p.add(c.Act == 0)
			continue
		}
		p.add(true, "ref")
		p.name(c.Ref)
		p.one(c.Act, "restrict", "cascade", "setnull")
	}
	p.add(true, ")")
	for _, e := range d.Checks {
		p.add(true, "check")
		p.expr(e)
	}
}

func (p *printer) view(d api.View) {
	p.add(len(d.Pick) <= 40 && len(d.Aggs) <= 40, "view")
	p.name(d.Name)
	p.add(true, "from")
	p.name(d.From)
	if d.With == "" {
		p.add(d.On == [2]int{})
	} else {
		p.add(true, "join")
		p.name(d.With)
		p.add(true, "on")
		p.col(d.On[0])
		p.add(true, "=")
		p.col(d.On[1])
	}
	if len(d.Where) > 0 {
		p.add(true, "where")
		p.expr(d.Where)
	}
	p.add(true, "pick")
	for i, n := range d.Pick {
		p.add(true, []string{"", ","}[min(i, 1)])
		p.col(n)
	}
	if d.Group {
		p.add(true, "group")
	}
	for i, a := range d.Aggs {
		p.add(d.Group, []string{"", ","}[min(i, 1)])
		p.one(a.Fn, "count", "sum", "min", "max")
		if a.Fn == 0 {
			p.add(a.Col == 0)
		} else {
			p.col(a.Col)
		}
	}
}

// wanted is the print of d; empty, if there is none.
func wanted(d api.Def) string {
	var p printer
	switch d.Kind {
	case api.DefTable:
		p.table(d.Table)
		p.add(equal(api.Def{View: d.View}, api.Def{}))
	case api.DefView:
		p.view(d.View)
		p.add(equal(api.Def{Table: d.Table}, api.Def{}))
	default:
		return ""
	}
	s := strings.Join(slices.DeleteFunc(p.words, func(w string) bool { return w == "" }), " ")
	if p.wrong || len(s) > 20000 {
		return ""
	}
	return s
}

// checkPrint holds Print and May of d against the chapter, and Parse of the print against d.
func checkPrint(t *testing.T, d api.Def) {
	t.Helper()
	want := wanted(d)
	expectPrinted(t, d, want)
	if want != "" {
		expectParsed(t, want, d)
	}
	if t.Failed() {
		t.FailNow()
	}
}

// P7.2, P7.3: columns made of all parts out of a few, valid and not.
func TestPrintAllColumns(t *testing.T) {
	var all []api.Column
	for _, name := range []string{"k", "c5", "", "int", "A"} {
		for kind := -1; kind <= api.Kinds; kind++ {
			for flags := range 4 {
				for _, ref := range []string{"", "u", "c5", "null", "cascade", "u cascade"} {
					for act := -1; act <= api.Acts; act++ {
						all = append(all, api.Column{Name: name, Kind: kind, Null: flags&1 != 0, Unique: flags&2 != 0, Ref: ref, Act: act})
					}
				}
			}
		}
	}
	good := column("a", api.Text)
	for _, c := range all {
		checkPrint(t, table("t", []api.Column{c}))
		checkPrint(t, table("t", []api.Column{good, c}, api.Expr{col(1)}))
		checkPrint(t, table("t", []api.Column{c, good}, nil, nil))
	}
}

// P7.2, P7.3: tables made of all parts out of a few, and of a part of a view.
func TestPrintAllTables(t *testing.T) {
	k, a := column("k", api.Int), api.Column{Name: "a", Kind: api.Bool, Null: true, Unique: true, Ref: "u", Act: api.SetNull}
	views := []api.View{{}, {Where: api.Expr{}, Pick: []int{}, Aggs: []api.Agg{}}, {Name: "v", From: "t"}, {Name: "v"}, {On: [2]int{0, 1}}, {Group: true}, {Pick: []int{0}}}
	cols := [][]api.Column{nil, {}, {k}, {k, a}, {a, k, a}, {k, {}}, slices.Repeat([]api.Column{a}, 40), slices.Repeat([]api.Column{k}, 41)}
	checks := [][]api.Expr{nil, {}, {nil}, {{col(0)}}, {nil, {null(), op(api.EIsNull)}, nil}, {{col(100)}}, {nil, {op(-1)}}, make([]api.Expr, 40), make([]api.Expr, 41), {make(api.Expr, 100)}, {make(api.Expr, 101)}}
	for kind := -1; kind <= api.DefKinds; kind++ {
		for _, name := range []string{"t", "c", "table", "", "t("} {
			for _, l := range cols {
				for _, e := range checks {
					for _, v := range views {
						checkPrint(t, api.Def{Kind: kind, Table: api.Table{Name: name, Cols: l, Checks: e}, View: v})
					}
				}
			}
		}
	}
}

// P7.2, P7.3: views made of all parts out of a few, and of a part of a table.
func TestPrintAllViews(t *testing.T) {
	wheres := []api.Expr{nil, {}, {col(0), null(), op(api.EEq)}, {col(-1)}, make(api.Expr, 101)}
	picks := [][]int{nil, {}, {0}, {99, 0}, {100}, {0, -1}, make([]int, 40), make([]int, 41)}
	aggs := [][]api.Agg{nil, {}, {{}}, {{Fn: 1, Col: 99}, {}, {Fn: 3}}, {{Col: 1}}, {{Fn: 2, Col: 100}}, {{Fn: 4}}, {{Fn: -1}}, make([]api.Agg, 40), make([]api.Agg, 41)}
	for _, names := range [][2]string{{"v", "t"}, {"c5", "c"}, {"", "t"}, {"v", ""}, {"group", "t"}, {"v", "t join u"}} {
		for _, with := range []string{"", "u", "on"} {
			for _, on := range [][2]int{{0, 0}, {0, 99}, {100, 0}, {0, -1}} {
				for _, where := range wheres {
					for _, pick := range picks {
						for _, agg := range aggs {
							v := api.View{Name: names[0], From: names[1], With: with, On: on, Where: where, Pick: pick, Aggs: agg}
							checkPrint(t, view(v))
							v.Group = true
							checkPrint(t, view(v))
						}
					}
				}
			}
		}
	}
	for kind := -1; kind <= api.DefKinds; kind++ {
		for _, with := range []api.Table{{}, {Cols: []api.Column{}}, {Name: "t"}, {Checks: []api.Expr{nil}}, checked().Table} {
			checkPrint(t, api.Def{Kind: kind, Table: with, View: api.View{Name: "v", From: "t", Pick: []int{3}}})
		}
	}
}

// P7.2, P7.3: expressions of one step and of two, out of all kinds of steps with all kinds of values.
func TestPrintAllSteps(t *testing.T) {
	values := []api.Value{{}, {N: 1}, {S: "a"}, no().V, yes().V, {Kind: api.Bool, N: 2}, {Kind: api.Bool, S: "a"}, num(0).V, num(-7).V, num(100).V, {Kind: api.Int, S: "a"}, text("").V, text("it's\n").V, {Kind: api.Text, N: 1}, text(strings.Repeat("'", 1000)).V, text(strings.Repeat("x", 1001)).V, {Kind: api.Kinds}, {Kind: -1}}
	var all []api.Node
	for o := -1; o <= api.EOps; o++ {
		for _, n := range []int{0, 1, 9, 10, 99, 100, -1} {
			for _, v := range values {
				all = append(all, api.Node{Op: o, N: n, V: v})
			}
		}
	}
	for _, n := range all {
		checkPrint(t, checked(api.Expr{n}))
		checkPrint(t, view(api.View{Name: "v", From: "t", Where: api.Expr{n}}))
		for _, m := range []api.Node{null(), op(api.EIsNull), col(5), text("?"), held(api.Value{Kind: api.Kinds})} {
			checkPrint(t, checked(api.Expr{m, n}))
			checkPrint(t, checked(api.Expr{n, m}, nil))
		}
	}
	for _, n := range append(all, badSteps()...) {
		if wanted(checked(api.Expr{n})) != "" {
			for _, m := range someSteps() {
				checkPrint(t, checked(api.Expr{n, m}))
			}
		}
	}
}

// textsOf is an expression of n texts, each of a thousand times this byte.
func textsOf(inside string, n int) api.Expr {
	return slices.Repeat(api.Expr{text(strings.Repeat(inside, 1000))}, n)
}

// P7.2, P7.3: prints of 20000 bytes and of about as many, in checks and in a where.
func TestPrintLengths(t *testing.T) {
	for _, inside := range []struct {
		s string
		n int
	}{{"x", 18}, {"'", 9}, {"\n", 18}, {"\xff", 18}} {
		for _, of := range []func(e api.Expr) api.Def{
			func(e api.Expr) api.Def { return checked(e) },
			func(e api.Expr) api.Def { return checked(nil, e[:5], nil, e[5:]) },
			func(e api.Expr) api.Def { return view(api.View{Name: "v", From: "t", Where: e}) },
			func(e api.Expr) api.Def {
				return view(api.View{Name: "v", From: "t", Where: e, Pick: make([]int, 40), Group: true, Aggs: make([]api.Agg, 40)})
			},
		} {
			// Two texts more fill up what is left; each has three bytes besides its own.
			e := textsOf(inside.s, inside.n)
			left := 20000 - len(wanted(of(e))) - 6
			for more := -2; more <= 2; more++ {
				half := (left + more) / 2
				d := of(append(slices.Clone(e), text(strings.Repeat("y", half)), text(strings.Repeat("z", left+more-half))))
				if s := wanted(d); more <= 0 && len(s) != 20000+more || more > 0 && s != "" {
					t.Fatalf("the test's print has %d bytes, with %d more than 20000", len(s), more)
				}
				checkPrint(t, d)
			}
		}
	}
}

// P7.2: many short steps make a print too long as well as few long ones do.
func TestPrintManySteps(t *testing.T) {
	for n := 37; n <= 40; n++ {
		for _, step := range []api.Node{num(100), num(-100), num(1000), num(10000), text("ab"), op(api.EIsNull), col(10)} {
			checkPrint(t, checked(slices.Repeat([]api.Expr{slices.Repeat(api.Expr{step}, 100)}, n)...))
		}
	}
	if got := Print(checked(slices.Repeat([]api.Expr{slices.Repeat(api.Expr{num(1000)}, 100)}, 39)...)); len(got) != 19907 {
		t.Errorf("a print of %d bytes, want 19907", len(got))
	}
}

// P7.1, P7.2: what is parsed of a text without blanks may have no print, because with blanks it is too long.
func TestParsedUnprinted(t *testing.T) {
	pair := "1'" + strings.Repeat("x", 995) + "'"
	s := "table t(k int)check[" + strings.Repeat(pair, 20) + "]"
	d := checked(slices.Repeat(api.Expr{num(1), text(strings.Repeat("x", 995))}, 20))
	if len(s) > 20000 {
		t.Fatal(len(s))
	}
	expectParsed(t, s, d)
	expectPrinted(t, d, "")
}

// R1: definitions of any size have an answer.
func TestPrintHuge(t *testing.T) {
	long := strings.Repeat("a", 1<<24)
	k := column("k", api.Int)
	for _, d := range []api.Def{
		table(long, []api.Column{k}), table("t", []api.Column{column(long, api.Int)}), table("t", slices.Repeat([]api.Column{{Name: long, Kind: api.Int, Ref: long}}, 1000)), table("t", slices.Repeat([]api.Column{k}, 1000000)), checked(make([]api.Expr, 1000000)...),
		checked(make(api.Expr, 1000000)), checked(slices.Repeat(api.Expr{text(long)}, 100)), checked(slices.Repeat([]api.Expr{slices.Repeat(api.Expr{text(strings.Repeat("'", 1<<20))}, 100)}, 40)...),
		view(api.View{Name: long, From: long, With: long}), view(api.View{Name: "v", From: "t", Where: make(api.Expr, 1000000)}), view(api.View{Name: "v", From: "t", Pick: make([]int, 1000000)}), view(api.View{Name: "v", From: "t", Group: true, Aggs: make([]api.Agg, 1000000)}),
		{Kind: api.DefView, Table: api.Table{Cols: make([]api.Column, 1000000)}, View: api.View{Name: "v", From: "t"}},
	} {
		expectPrinted(t, d, "")
	}
}
