package ddl

import (
	"math"
	"slices"
	"strconv"
	"strings"
	"testing"

	"levee/api"
)

// P7.1, P7.2: the chapter's examples.
func TestExamples(t *testing.T) {
	d := table("t", []api.Column{column("k", api.Int), {Name: "a", Kind: api.Text, Null: true, Ref: "u", Act: api.Cascade}}, api.Expr{col(0), num(0), op(api.ELess)})
	expectParsed(t, "table t(k int, a text null ref u cascade) check [c0 0 <]", d)
	expectPair(t, "table t ( k int , a text null ref u cascade ) check [ c0 0 < ]", d)
	v := view(api.View{Name: "v", From: "t", Where: api.Expr{col(0), op(api.EIsNull)}, Pick: []int{1}, Group: true, Aggs: []api.Agg{{Fn: api.FnCount}, {Fn: api.FnSum}}})
	expectParsed(t, "view v from t where [c0 null ?] pick 1 group count, sum 0", v)
	expectPair(t, "view v from t where [ c0 null ? ] pick 1 group count , sum 0", v)
}

// P7.1, P7.2: columns of every kind, with every part.
func TestColumns(t *testing.T) {
	kinds := map[string]int{"bool": api.Bool, "int": api.Int, "text": api.Text}
	refs := map[string]api.Column{
		"": {}, " ref u restrict": {Ref: "u", Act: api.Restrict}, " ref u cascade": {Ref: "u", Act: api.Cascade}, " ref u setnull": {Ref: "u", Act: api.SetNull}, " ref t cascade": {Ref: "t", Act: api.Cascade},
	}
	for kind, k := range kinds {
		for ref, c := range refs {
			for _, null := range []bool{false, true} {
				for _, unique := range []bool{false, true} {
					s := "a " + kind
					if null {
						s += " null"
					}
					if unique {
						s += " unique"
					}
					c := api.Column{Name: "a", Kind: k, Null: null, Unique: unique, Ref: c.Ref, Act: c.Act}
					expectPair(t, "table t ( "+s+ref+" )", table("t", []api.Column{c}))
					expectPair(t, "table t ( k int , "+s+ref+" )", table("t", []api.Column{column("k", api.Int), c}))
					expectPair(t, "table t ( "+s+ref+" , k int ) check [ ]", table("t", []api.Column{c, column("k", api.Int)}, nil))
				}
			}
		}
	}
	// Whether names are there twice is left to the catalog.
	expectPair(t, "table t ( t int , t text )", table("t", []api.Column{column("t", api.Int), column("t", api.Text)}))
}

// P7.1, P7.2: checks, one, several and empty ones.
func TestChecks(t *testing.T) {
	less := api.Expr{col(0), num(0), op(api.ELess)}
	expectPair(t, checkedText, checked())
	expectPair(t, checkedText+" check [ ]", checked(nil))
	expectPair(t, checkedText+" check [ ] check [ ] check [ ]", checked(nil, api.Expr{}, nil))
	expectPair(t, checkedText+" check [ c0 0 < ]", checked(less))
	expectPair(t, checkedText+" check [ c0 0 < ] check [ ] check [ true ]", checked(less, nil, api.Expr{yes()}))
	expectPair(t, checkedText+" check [ c0 0 < ] check [ c0 0 < ]", checked(less, less))
	// Whether an expression has a kind is left to the catalog.
	expectPair(t, checkedText+" check [ + ] check [ c99 c99 ]", checked(api.Expr{op(api.EAdd)}, api.Expr{col(99), col(99)}))
}

// P7.1, P7.2: views with each part and without it.
func TestViews(t *testing.T) {
	where := api.Expr{col(0), num(-3), op(api.EEq), op(api.ENot)}
	aggs := []api.Agg{{Fn: api.FnCount}, {Fn: api.FnSum, Col: 0}, {Fn: api.FnMin, Col: 1}, {Fn: api.FnMax, Col: 2}}
	for _, join := range []bool{false, true} {
		for picked, picks := range map[string][]int{"": nil, " 1": {1}, " 1 , 0": {1, 0}, " 0 , 0 , 99": {0, 0, 99}} {
			for grouped, n := range map[string]int{"": -1, " group": 0, " group count": 1, " group count , sum 0": 2, " group count , sum 0 , min 1": 3, " group count , sum 0 , min 1 , max 2": 4} {
				v := api.View{Name: "v", From: "t", Pick: picks}
				first, last := "view v from t", " pick"+picked+grouped
				if join {
					v.With, v.On = "u", [2]int{1, 2}
					first += " join u on 1 = 2"
				}
				if n >= 0 {
					v.Group, v.Aggs = true, aggs[:n]
				}
				expectPair(t, first+last, view(v))
				expectParsed(t, first+" where [ ]"+last, view(v))
				v.Where = where
				expectPair(t, first+" where [ c0 -3 = not ]"+last, view(v))
			}
		}
	}
	// A view may be of itself, or of one thing twice, as far as its definition goes.
	expectPair(t, "view v from v join v on 0 = 0 pick", view(api.View{Name: "v", From: "v", With: "v"}))
}

// P7.1, P7.2: the parts of a view that may be empty.
func TestViewsEmptyParts(t *testing.T) {
	bare := view(api.View{Name: "v", From: "t"})
	expectPair(t, "view v from t pick", bare)
	for _, s := range []string{"view v from t where[]pick", "view v from t where [ ] pick", " view  v from t where [  ]pick "} {
		expectParsed(t, s, bare)
	}
	expectPrinted(t, view(api.View{Name: "v", From: "t", Where: api.Expr{}, Pick: []int{}, Aggs: []api.Agg{}}), "view v from t pick")
	grouped := view(api.View{Name: "v", From: "t", Group: true})
	expectPair(t, "view v from t pick group", grouped)
	expectParsed(t, "view v from t where [ ] pick group", grouped)
	expectPair(t, "view v from t pick group count", view(api.View{Name: "v", From: "t", Group: true, Aggs: []api.Agg{{}}}))
	expectPair(t, "view v from t join u on 0 = 0 pick", view(api.View{Name: "v", From: "t", With: "u"}))
}

// P7.1: blanks are needed only where tokens would run together.
func TestBlanks(t *testing.T) {
	d := table("t", []api.Column{column("k", api.Int), {Name: "a", Kind: api.Text, Null: true, Unique: true, Ref: "u"}}, api.Expr{col(0), num(-1), text("b"), op(api.EIsNull), op(api.ESub)}, nil)
	for _, s := range []string{
		"table t(k int,a text null unique ref u restrict)check[c0-1'b'null?-]check[]",
		"  table  t ( k  int , a  text  null  unique  ref  u  restrict )  check [ c0  -1  'b'  null  ?  - ]  check [ ]  ",
		"table t ( k int , a text null unique ref u restrict ) check [ c0 -1 'b' null ? - ] check [ ]",
	} {
		expectParsed(t, s, d)
	}
	v := view(api.View{Name: "v", From: "t", With: "u", On: [2]int{1, 0}, Where: api.Expr{null(), op(api.EIsNull)}, Pick: []int{0, 1}, Group: true, Aggs: []api.Agg{{}, {Fn: api.FnMax, Col: 3}}})
	expectParsed(t, "view v from t join u on 1=0where[null null?]pick 0,1group count,max 3", v)
	expectPair(t, "view v from t join u on 1 = 0 where [ null null ? ] pick 0 , 1 group count , max 3", v)
	for _, s := range []string{"tablet(k int)", "table t(kint)", "view vfrom t pick", "view v from t pick0", "view v from t pickgroup", "view v from t pick groupcount", "view v from t pick group sum0", "table t(k int) check [c0c1]", "table t(k int) check [truefalse]", "table t(k int) check [nullnull?]", "table t(k int nullunique)"} {
		expectRefused(t, s, api.ErrParse)
	}
}

// P7.1, P7.2: each step, alone and between others, in a check and in a where.
func TestSteps(t *testing.T) {
	for s, n := range someSteps() {
		for _, c := range []struct {
			s string
			e api.Expr
		}{
			{s, api.Expr{n}}, {s + " " + s, api.Expr{n, n}}, {"c1 " + s, api.Expr{col(1), n}}, {s + " 5", api.Expr{n, num(5)}}, {"'a' " + s + " 'b'", api.Expr{text("a"), n, text("b")}}, {s + " null ?", api.Expr{n, op(api.EIsNull)}},
			{"null null ? " + s, api.Expr{null(), op(api.EIsNull), n}},
		} {
			expectPair(t, checkedText+" check [ "+c.s+" ]", checked(c.e))
			expectPair(t, "view v from t where [ "+c.s+" ] pick", view(api.View{Name: "v", From: "t", Where: c.e}))
		}
	}
}

// P7.1, P7.2: a null is a constant, unless a question mark follows it, which is a step nowhere else.
func TestNull(t *testing.T) {
	is := op(api.EIsNull)
	for s, e := range map[string]api.Expr{
		"null": {null()}, "null ?": {is}, "null null": {null(), null()}, "null null ?": {null(), is}, "null ? null": {is, null()}, "null ? null ?": {is, is}, "null null ? null": {null(), is, null()}, "null null null ?": {null(), null(), is},
		"'null' null ?": {text("null"), is}, "null '?'": {null(), text("?")}, "null not": {null(), op(api.ENot)},
	} {
		expectPair(t, checkedText+" check [ "+s+" ]", checked(e))
		expectParsed(t, checkedText+"check["+strings.ReplaceAll(s, " ?", "?")+"]", checked(e))
	}
	for _, s := range []string{"?", "null ? ?", "? null", "c0 ?", "true ?", "'null' ?", "null 0 ?", "null null ? ?", "not ?", "null ( ? )", "null ] ?"} {
		expectRefused(t, checkedText+" check [ "+s+" ]", api.ErrParse)
		expectRefused(t, "view v from t where [ "+s+" ] pick", api.ErrParse)
	}
}

// P7.1: what is no step.
func TestNoSteps(t *testing.T) {
	for _, s := range []string{
		"c", "c00", "c01", "c09", "c000", "c001", "c100", "c101", "c999", "c00000000000000000000000001", "c9223372036854775807", "c9223372036854775808", "c18446744073709551616", "c_", "c0_", "c_0", "c1_0", "c0a", "c0c0", "cc0", "ca", "c 0", "c -1", "c-1", "c 'a'",
		"a", "a0", "d0", "x", "k", "t", "null_", "nulls", "isnull", "truth", "tru", "xor", "nor", "table", "check", "view", "from", "join", "on", "where", "pick", "group", "bool", "int", "text", "unique", "ref", "restrict", "cascade", "setnull", "count", "sum", "min", "max",
		"(", ")", "[", ",", "?", "( c0 )", "c0 , c1", "[ c0 ]", "c0 [ ]",
	} {
		for _, e := range []string{s, "c0 " + s, s + " c0", "5 " + s + " 'a'"} {
			expectRefused(t, checkedText+" check [ "+e+" ]", api.ErrParse)
			expectRefused(t, "view v from t where [ "+e+" ] pick", api.ErrParse)
		}
	}
}

// P7.1, P7.2: the numbers of columns, wherever they stand.
func TestColumnNumbers(t *testing.T) {
	v := api.View{Name: "v", From: "t"}
	forms := []struct {
		ahead, behind string
		of            func(v *api.View, n int)
	}{
		{"view v from t pick ", "", func(v *api.View, n int) { v.Pick = []int{n} }},
		{"view v from t pick 1 , ", " , 2", func(v *api.View, n int) { v.Pick = []int{1, n, 2} }},
		{"view v from t pick ", " group", func(v *api.View, n int) { v.Pick, v.Group = []int{n}, true }},
		{"view v from t pick group sum ", "", func(v *api.View, n int) { v.Group, v.Aggs = true, []api.Agg{{Fn: api.FnSum, Col: n}} }},
		{"view v from t pick group min ", "", func(v *api.View, n int) { v.Group, v.Aggs = true, []api.Agg{{Fn: api.FnMin, Col: n}} }},
		{"view v from t pick group max ", "", func(v *api.View, n int) { v.Group, v.Aggs = true, []api.Agg{{Fn: api.FnMax, Col: n}} }},
		{"view v from t pick group count , max ", " , min 7", func(v *api.View, n int) {
			v.Group, v.Aggs = true, []api.Agg{{Fn: api.FnCount}, {Fn: api.FnMax, Col: n}, {Fn: api.FnMin, Col: 7}}
		}},
		{"view v from t join u on ", " = 3 pick", func(v *api.View, n int) { v.With, v.On = "u", [2]int{n, 3} }},
		{"view v from t join u on 3 = ", " pick", func(v *api.View, n int) { v.With, v.On = "u", [2]int{3, n} }},
		{"view v from t where [ c", " ] pick", func(v *api.View, n int) { v.Where = api.Expr{col(n)} }},
	}
	for _, f := range forms {
		for _, n := range []int{0, 1, 9, 10, 50, 98, 99, 100, 101, 999, 1 << 32, math.MaxInt, -1, -99, math.MinInt} {
			of := v
			f.of(&of, n)
			s := f.ahead + strconv.Itoa(n) + f.behind
			if n >= 0 && n <= 99 {
				expectPair(t, s, view(of))
				continue
			}
			expectRefused(t, s, api.ErrParse)
			expectPrinted(t, view(of), "")
		}
		// Behind c, in one word with it, some of these are something else: see TestNoSteps.
		if strings.HasSuffix(f.ahead, " ") {
			for _, s := range []string{"'0'", "''", "true", "null", "c0", "k", "+", "-", "- 1", "+ 1", "1 1", "( 1 )", "[ 1 ]", "?"} {
				expectRefused(t, f.ahead+s+f.behind, api.ErrParse)
			}
			for _, s := range []string{"00", "01", "099", "-0", "-01", "9223372036854775808"} {
				expectRefused(t, f.ahead+s+f.behind, api.ErrLex)
			}
		}
	}
	// A count has no column, and takes none.
	expectRefused(t, "view v from t pick group count 0", api.ErrParse)
	for _, n := range []int{1, 99, -1, 100, math.MinInt} {
		expectPrinted(t, view(api.View{Name: "v", From: "t", Group: true, Aggs: []api.Agg{{Fn: api.FnCount, Col: n}}}), "")
	}
}

// nameForms holds definitions with a name in every place where one may be.
func nameForms() map[string]func(name string) api.Def {
	return map[string]func(name string) api.Def{
		"table @ ( k int )": func(n string) api.Def { return table(n, []api.Column{column("k", api.Int)}) },
		"table t ( @ int )": func(n string) api.Def { return table("t", []api.Column{column(n, api.Int)}) },
		"table t ( k int , @ text null )": func(n string) api.Def {
			return table("t", []api.Column{column("k", api.Int), {Name: n, Kind: api.Text, Null: true}})
		},
		"table t ( k int ref @ cascade )": func(n string) api.Def {
			return table("t", []api.Column{{Name: "k", Kind: api.Int, Ref: n, Act: api.Cascade}})
		},
		"table t ( k int unique ref @ restrict )": func(n string) api.Def {
			return table("t", []api.Column{{Name: "k", Kind: api.Int, Unique: true, Ref: n}})
		},
		"view @ from t pick": func(n string) api.Def { return view(api.View{Name: n, From: "t"}) },
		"view v from @ pick": func(n string) api.Def { return view(api.View{Name: "v", From: n}) },
		"view v from @ where [ c5 ] pick 1": func(n string) api.Def {
			return view(api.View{Name: "v", From: n, Where: api.Expr{col(5)}, Pick: []int{1}})
		},
		"view v from t join @ on 0 = 1 pick group": func(n string) api.Def {
			return view(api.View{Name: "v", From: "t", With: n, On: [2]int{0, 1}, Group: true})
		},
		"view v from t join @ on 0 = 0 pick 1 , 99": func(n string) api.Def { return view(api.View{Name: "v", From: "t", With: n, Pick: []int{1, 99}}) },
	}
}

// P7.1, P7.2: which words are names, in each place where a name stands.
func TestNames(t *testing.T) {
	if n := len(quotedWords); n != 27 {
		t.Fatalf("the grammar has 27 quoted words, not %d", n)
	}
	for form, of := range nameForms() {
		for _, name := range goodNames() {
			expectPair(t, strings.ReplaceAll(form, "@", name), of(name))
		}
		for _, name := range quotedWords {
			expectRefused(t, strings.ReplaceAll(form, "@", name), api.ErrParse)
			expectPrinted(t, of(name), "")
		}
		for _, name := range []string{"", "1", "'a'", "'t'", "(", "?", "a b", "a , b", "c 5", "-1", "[ a ]"} {
			expectRefused(t, strings.ReplaceAll(form, "@", name), api.ErrParse)
		}
		for _, name := range []string{"_", "T", "a.b", "é", "'", strings.Repeat("w", 31)} {
			expectRefused(t, strings.ReplaceAll(form, "@", name), api.ErrLex)
		}
		for _, name := range badNames() {
			// Without a name behind them, what refers and what joins are not there at all.
			if name == "" && strings.Contains(form, "ref @ restrict") {
				expectPrinted(t, of(""), "table t ( k int unique )")
			} else if name == "" && strings.Contains(form, "on 0 = 0") {
				expectPrinted(t, of(""), "view v from t pick 1 , 99")
			} else {
				expectPrinted(t, of(name), "")
			}
		}
	}
}

// repeated is n times s, with this between.
func repeated(s, between string, n int) string {
	return strings.Join(slices.Repeat([]string{s}, n), between)
}

// P7.1, P7.2: one, forty and forty-one of what there may be forty of.
func TestLengths(t *testing.T) {
	k := column("k", api.Int)
	for _, n := range []int{0, 1, 2, 39, 40, 41, 42, 80, 400} {
		for _, c := range []struct {
			s     string
			d     api.Def
			least int
		}{
			{"table t ( " + repeated("k int", " , ", n) + " )", table("t", slices.Repeat([]api.Column{k}, n)), 1},
			{checkedText + strings.Repeat(" check [ ]", n), checked(make([]api.Expr, n)...), 0},
			{checkedText + strings.Repeat(" check [ c0 ]", n), checked(slices.Repeat([]api.Expr{{col(0)}}, n)...), 0},
			{strings.TrimSuffix("view v from t pick "+repeated("7", " , ", n), " "), view(api.View{Name: "v", From: "t", Pick: slices.Repeat([]int{7}, n)}), 0},
			{strings.TrimSuffix("view v from t pick group "+repeated("count", " , ", n), " "), view(api.View{Name: "v", From: "t", Group: true, Aggs: make([]api.Agg, n)}), 0},
			{strings.TrimSuffix("view v from t pick 1 group "+repeated("max 2", " , ", n), " "), view(api.View{Name: "v", From: "t", Pick: []int{1}, Group: true, Aggs: slices.Repeat([]api.Agg{{Fn: api.FnMax, Col: 2}}, n)}), 0},
		} {
			if n >= c.least && n <= 40 {
				expectPair(t, c.s, c.d)
			} else {
				expectRefused(t, c.s, api.ErrParse)
				expectPrinted(t, c.d, "")
			}
		}
	}
	// Each of them is counted for itself.
	all := table("t", slices.Repeat([]api.Column{k}, 40), make([]api.Expr, 40)...)
	expectPair(t, "table t ( "+repeated("k int", " , ", 40)+" )"+strings.Repeat(" check [ ]", 40), all)
	whole := view(api.View{Name: "v", From: "t", Pick: make([]int, 40), Group: true, Aggs: make([]api.Agg, 40)})
	expectPair(t, "view v from t pick "+repeated("0", " , ", 40)+" group "+repeated("count", " , ", 40), whole)
}

// P7.1, P7.2: expressions of 0, 100 and 101 steps.
func TestExprLengths(t *testing.T) {
	for s, step := range map[string]api.Node{"c0": col(0), "null": null(), "null ?": op(api.EIsNull), "+": op(api.EAdd), "'a'": text("a"), "-1": num(-1)} {
		for _, n := range []int{0, 1, 2, 99, 100, 101, 102, 200, 1000} {
			e := slices.Repeat(api.Expr{step}, n)
			in := strings.Join(append(append([]string{"["}, slices.Repeat([]string{s}, n)...), "]"), " ")
			where := view(api.View{Name: "v", From: "t", Where: e, Pick: []int{1}})
			if n > 100 {
				for _, text := range []string{checkedText + " check " + in, checkedText + " check [ ] check " + in, checkedText + " check " + in + " check [ ]", "view v from t where " + in + " pick 1"} {
					expectRefused(t, text, api.ErrParse)
				}
				for _, d := range []api.Def{checked(e), checked(nil, e), checked(e, nil), where} {
					expectPrinted(t, d, "")
				}
				continue
			}
			expectPair(t, checkedText+" check "+in, checked(e))
			expectPair(t, checkedText+" check "+in+" check [ true ] check "+in, checked(e, api.Expr{yes()}, e))
			if n == 0 {
				expectParsed(t, "view v from t where "+in+" pick 1", where)
				in = ""
			} else {
				in = "where " + in + " "
			}
			expectPair(t, "view v from t "+in+"pick 1", where)
		}
	}
}

// P7.1: where lex.Lex has an error, it is that one, whatever else is wrong.
func TestLexErrors(t *testing.T) {
	for _, s := range []string{
		"!", "table t!", "table t(k int)!", "table t(k int) check [c0 0 >]", "view v from t pick 01", "view v from t pick -0", "table T(k int)", "table t(k int) check ['a]", "table t(k int)\n", "table t(k int) check [c0\tc1]", "view v from t pick;", "x !", "table table !", "pick 100 '",
		"table t(k int) check [9223372036854775808]", "table t(k int) check [-9223372036854775809]", "table t(k int) check ['" + strings.Repeat("x", 1001) + "']", "table " + strings.Repeat("t", 31) + "(k int)", "view v from t pick 18446744073709551616",
		strings.Repeat(" ", 20001), "view v from t pick" + strings.Repeat(" ", 20000), strings.Repeat("a ", 20000), "table t(k int) check [" + strings.Repeat("c0 ", 100000) + "]", "\x00", "\xff", "é",
	} {
		expectRefused(t, s, api.ErrLex)
	}
	expectParsed(t, "view v from t pick"+strings.Repeat(" ", 20000-len("view v from t pick")), view(api.View{Name: "v", From: "t"}))
	expectRefused(t, strings.Repeat(" ", 20000), api.ErrParse)
}

// P7.1: no tokens, and what is not a whole definition, or more than one.
func TestNoDefinitions(t *testing.T) {
	for _, s := range []string{
		"", " ", "    ", "t", "c5", "table", "view", "1", "'table t(k int)'", "(", "()", "[", "]", "?", "null ?", "[c0]", "definition", "tables t(k int)", "create table t(k int)", "'table' t(k int)",
		"table t", "table t(", "table t(k", "table t(k int", "table t(k int,", "table t(k int, a", "table t(k int, a text", "table t(k int) check", "table t(k int) check [", "table t(k int) check [c0", "table t(k int) check [c0] check", "table (k int)", "table t k int", "table t k int)", "table t[k int]", "table t()", "table t(,)", "table t(int)", "table t(k)", "table t(k,a)", "table t(k int a text)", "table t(k int,,a text)", "table t(,k int)", "table t(k int,)", "table t(int k)", "table t(k null int)", "table t(k null)", "table t(k int int)", "table t(k int null null)", "table t(k int unique unique)", "table t(k int unique null)", "table t(k int ref u)", "table t(k int ref cascade)", "table t(k int ref)", "table t(k int u cascade)", "table t(k int cascade)", "table t(k int ref u cascade cascade)", "table t(k int ref u cascade restrict)", "table t(k int ref u cascade ref u cascade)", "table t(k int ref u cascade null)", "table t(k int ref u cascade unique)", "table t(k int ref u unique cascade)", "table t(k int ref u set null)", "table t(k int not null)", "table t(k number)", "table t(k int(1))", "table t(k 'int')",
		"table t(k int)(a int)", "table t(k int))", "table t((k int))", "table t(k int) [c0]", "table t(k int) check c0", "table t(k int) check (c0)", "table t(k int) check [c0]]", "table t(k int) check [[c0]]", "table t(k int) check [c0] [c0]", "table t(k int) check [c0], check [c0]", "table t(k int) check [c0], [c0]", "table t(k int) check check [c0]", "table t check [c0] (k int)", "check [c0] table t(k int)", "table t(k int check [c0])", "table t(k int) where [c0]", "table t(k int) pick 0", "table t(k int) group",
		"table t(k int) x", "table t(k int) t", "table t(k int) 1", "table t(k int) 'a'", "table t(k int),", "table t(k int) ?", "table t(k int) -- a", "table t(k int) table", "table t(k int) table u(k int)", "table t(k int) view v from t pick", "table table t(k int)", "table t t(k int)", "view table t(k int)", "table view v from t pick",
		"view v", "view v from", "view v from t", "view from t pick", "view v t pick", "view v from pick", "view v pick", "view pick", "view v from t, u pick", "view v v from t pick", "view v from t t pick", "view v from from t pick", "view view v from t pick", "view v from t from u pick", "view v(k int)", "view v from (t) pick",
		"view v from t join u pick", "view v from t join u on pick", "view v from t join u on 0 pick", "view v from t join u on 0 = pick", "view v from t join u on = 0 pick", "view v from t join u on 0 0 pick", "view v from t join u 0 = 0 pick", "view v from t join on 0 = 0 pick", "view v from t u on 0 = 0 pick", "view v from t on 0 = 0 pick", "view v from t join u on 0 = 0", "view v from t join u on 0 < 0 pick", "view v from t join u on c0 = c0 pick", "view v from t join u on 0 = 0 on 0 = 0 pick", "view v from t join u on 0 = 0 join u on 0 = 0 pick", "view v from t join u on 0 = 0 = 0 pick", "view v from t join u on 0 = 0, 1 = 1 pick", "view v join u on 0 = 0 from t pick", "view v from t where [c0] join u on 0 = 0 pick", "view v from t pick join u on 0 = 0",
		"view v from t where pick", "view v from t where [ pick", "view v from t where ] pick", "view v from t where [c0", "view v from t where [c0]", "view v from t where c0 pick", "view v from t where (c0) pick", "view v from t [c0] pick", "view v from t where [c0] where [c0] pick", "view v from t where where [c0] pick", "view v from t where [c0] [c0] pick", "view v from t pick where [c0]", "view v where [c0] from t pick", "view v from t check [c0] pick", "view v from t pick 0 check [c0]",
		"view v from t pick 1,", "view v from t pick ,1", "view v from t pick ,", "view v from t pick 1 2", "view v from t pick 1,,2", "view v from t pick 1, group", "view v from t pick (1)", "view v from t pick c1", "view v from t pick k", "view v from t pick '1'", "view v from t pick pick", "view v from t pick 1 pick 1", "view v from t pick, group", "view v from t pick null", "view v from t pick *",
		"view v from t group", "view v from t group count", "view v from t group pick", "view v from t group count pick 1", "view v from t pick count", "view v from t pick 1 count", "view v from t pick 1 sum 0", "view v from t pick group 1", "view v from t pick group group", "view v from t pick group count group count", "view v from t pick group count,", "view v from t pick group ,count", "view v from t pick group ,", "view v from t pick group count count", "view v from t pick group count sum 0", "view v from t pick group count 1", "view v from t pick group count 0", "view v from t pick group sum", "view v from t pick group min", "view v from t pick group max", "view v from t pick group sum, count", "view v from t pick group sum 0 0", "view v from t pick group sum (0)", "view v from t pick group sum c0", "view v from t pick group sum '0'", "view v from t pick group avg 0", "view v from t pick group c5", "view v from t pick group 'count'", "view v from t pick group 0 sum", "view v from t pick group count, 1", "view v from t pick group where [c0]",
		"view v from t pick x", "view v from t pick 1 x", "view v from t pick group x", "view v from t pick group count x", "view v from t pick group count ?", "view v from t pick view v from t pick", "view v from t pick table t(k int)", "view v from t pick)",
	} {
		expectRefused(t, s, api.ErrParse)
	}
}

// P7.2: definitions for which there is no text, each for one reason.
func TestUnprintable(t *testing.T) {
	k := []api.Column{column("k", api.Int)}
	good := api.View{Name: "v", From: "t"}
	of := func(change func(v *api.View)) api.Def {
		v := good
		change(&v)
		return view(v)
	}
	for _, d := range []api.Def{
		{}, {Kind: api.DefView}, table("t", nil), table("t", []api.Column{}), table("", k), table("t", []api.Column{{}}), table("t", []api.Column{k[0], {}}), checked(nil, api.Expr{{Op: api.EOps}}),
		{Kind: api.DefTable, Table: checked().Table, View: good}, {Kind: api.DefView, Table: checked().Table, View: good}, {Kind: api.DefTable, View: good}, {Kind: api.DefView, Table: checked().Table},
		{Kind: api.DefTable, Table: checked().Table, View: api.View{Name: "v"}}, {Kind: api.DefTable, Table: checked().Table, View: api.View{From: "t"}}, {Kind: api.DefTable, Table: checked().Table, View: api.View{With: "u"}}, {Kind: api.DefTable, Table: checked().Table, View: api.View{On: [2]int{0, 1}}}, {Kind: api.DefTable, Table: checked().Table, View: api.View{On: [2]int{1, 0}}}, {Kind: api.DefTable, Table: checked().Table, View: api.View{Where: api.Expr{col(0)}}}, {Kind: api.DefTable, Table: checked().Table, View: api.View{Pick: []int{0}}}, {Kind: api.DefTable, Table: checked().Table, View: api.View{Group: true}}, {Kind: api.DefTable, Table: checked().Table, View: api.View{Aggs: []api.Agg{{}}}},
		{Kind: api.DefView, View: good, Table: api.Table{Name: "t"}}, {Kind: api.DefView, View: good, Table: api.Table{Cols: k}}, {Kind: api.DefView, View: good, Table: api.Table{Cols: []api.Column{{}}}}, {Kind: api.DefView, View: good, Table: api.Table{Checks: []api.Expr{nil}}},
		of(func(v *api.View) { v.Name = "" }), of(func(v *api.View) { v.From = "" }), of(func(v *api.View) { v.On = [2]int{0, 1} }), of(func(v *api.View) { v.On = [2]int{1, 0} }), of(func(v *api.View) { v.On = [2]int{-1, 0} }),
		of(func(v *api.View) { v.Aggs = []api.Agg{{}} }), of(func(v *api.View) { v.Aggs = []api.Agg{{Fn: api.FnSum}} }), of(func(v *api.View) { v.Pick, v.Aggs = []int{0}, []api.Agg{{}} }),
		of(func(v *api.View) { v.Group, v.Aggs = true, []api.Agg{{Fn: api.FnCount, Col: 1}} }),
	} {
		expectPrinted(t, d, "")
	}
	// An empty list is as good as none, also in the part that is not meant.
	expectPrinted(t, api.Def{Kind: api.DefTable, Table: checked().Table, View: api.View{Where: api.Expr{}, Pick: []int{}, Aggs: []api.Agg{}}}, checkedText)
	expectPrinted(t, api.Def{Kind: api.DefView, View: good, Table: api.Table{Cols: []api.Column{}, Checks: []api.Expr{}}}, "view v from t pick")
}

// P7.2: kinds, actions and functions that there are not.
func TestUnprintableNumbers(t *testing.T) {
	for _, n := range []int{-1, -2, 2, 3, 4, 5, 100, 256, 257, 258, 1 << 32, 1<<32 + 1, math.MaxInt, math.MinInt, math.MinInt + 1, math.MinInt + 2} {
		for _, d := range []api.Def{{Table: checked().Table}, view(api.View{Name: "v", From: "t"}), {}} {
			d.Kind = n
			expectPrinted(t, d, "")
		}
		if n < api.Bool || n > api.Text {
			expectPrinted(t, table("t", []api.Column{column("k", n)}), "")
			expectPrinted(t, table("t", []api.Column{column("k", api.Int), {Name: "a", Kind: n, Null: true, Unique: true, Ref: "u", Act: api.SetNull}}), "")
		}
		if n < api.Restrict || n > api.SetNull {
			expectPrinted(t, table("t", []api.Column{{Name: "k", Kind: api.Int, Ref: "u", Act: n}}), "")
		}
		if n != 0 {
			expectPrinted(t, table("t", []api.Column{{Name: "k", Kind: api.Int, Act: n}}), "")
		}
		if n < api.FnCount || n > api.FnMax {
			for _, c := range []int{0, 1} {
				expectPrinted(t, view(api.View{Name: "v", From: "t", Group: true, Aggs: []api.Agg{{Fn: n, Col: c}}}), "")
				expectPrinted(t, view(api.View{Name: "v", From: "t", Group: true, Aggs: []api.Agg{{}, {Fn: n, Col: c}}}), "")
			}
		}
	}
	expectPrinted(t, table("t", []api.Column{column("k", api.Null)}), "")
}

// P7.2: steps for which there is no text, wherever they stand.
func TestUnprintableSteps(t *testing.T) {
	for _, n := range badSteps() {
		for _, e := range []api.Expr{{n}, {col(0), n}, {n, col(0)}, {null(), n}, {n, op(api.EIsNull)}, {n, n}} {
			expectPrinted(t, checked(e), "")
			expectPrinted(t, checked(nil, e, nil), "")
			expectPrinted(t, view(api.View{Name: "v", From: "t", Where: e}), "")
			expectPrinted(t, view(api.View{Name: "v", From: "t", Where: e, Pick: []int{0}, Group: true}), "")
		}
	}
}

// keptCases holds definitions with all lists filled: one that is valid and one that is not, of both kinds.
func keptCases() []api.Def {
	cols := []api.Column{column("k", api.Int), {Name: "a", Kind: api.Text, Ref: "u", Act: api.SetNull}}
	checks := []api.Expr{{col(0), num(1), op(api.ELess)}, nil, {}, {null(), op(api.EIsNull)}}
	v := api.View{Name: "v", From: "t", Where: api.Expr{col(0), text("it's")}, Pick: []int{0, 99}, Group: true, Aggs: []api.Agg{{}, {Fn: api.FnMax, Col: 3}}}
	wrong := v
	wrong.Pick = []int{0, 100}
	return []api.Def{table("t", cols, checks...), table("t", append(cols, api.Column{}), checks...), view(v), view(wrong), {Table: table("t", cols, checks...).Table, View: v}, {Kind: api.DefKinds, Table: table("t", cols).Table, View: v}}
}

// roomy is d with room behind each of its lists, in which there is something already.
func roomy(d api.Def) api.Def {
	d.Table.Cols = append(slices.Clone(d.Table.Cols), column("room", 9))[:len(d.Table.Cols)]
	d.Table.Checks = append(slices.Clone(d.Table.Checks), api.Expr{num(9)})[:len(d.Table.Checks)]
	for i, e := range d.Table.Checks {
		d.Table.Checks[i] = append(slices.Clone(e), num(9))[:len(e)]
	}
	d.View.Where = append(slices.Clone(d.View.Where), num(9))[:len(d.View.Where)]
	d.View.Pick = append(slices.Clone(d.View.Pick), 9)[:len(d.View.Pick)]
	d.View.Aggs = append(slices.Clone(d.View.Aggs), api.Agg{Fn: 9, Col: 9})[:len(d.View.Aggs)]
	return d
}

// behind is what stands in the room behind d's lists.
func behind(d api.Def) api.Def {
	c := d
	c.Table.Cols = d.Table.Cols[:len(d.Table.Cols)+1]
	c.Table.Checks = slices.Clone(d.Table.Checks[:len(d.Table.Checks)+1])
	for i, e := range d.Table.Checks {
		c.Table.Checks[i] = e[:len(e)+1]
	}
	c.View.Where = d.View.Where[:len(d.View.Where)+1]
	c.View.Pick = d.View.Pick[:len(d.View.Pick)+1]
	c.View.Aggs = d.View.Aggs[:len(d.View.Aggs)+1]
	return c
}

// R4: no call changes a list that it was given, nor what stands behind it.
func TestKept(t *testing.T) {
	for i, d := range keptCases() {
		d = roomy(d)
		before := copyOf(behind(d))
		Print(d)
		May(d)
		if !equal(behind(d), before) {
			t.Errorf("definition %d is changed: %s", i, shown(behind(d)))
		}
	}
}

// R4: answers share no memory with each other, and no two lists of one answer do.
func TestNewMemory(t *testing.T) {
	for _, d := range keptCases() {
		s := Print(d)
		if s == "" {
			continue
		}
		first, _ := Parse(s)
		second, _ := Parse(s)
		want := copyOf(first)
		spoil(&first)
		if !equal(second, want) {
			t.Errorf("%q: two answers share memory", s)
		}
		expectParsed(t, s, want)
		for i := range second.Table.Checks {
			_ = append(second.Table.Checks[i], num(9), num(9), num(9))
		}
		if !equal(second, want) {
			t.Errorf("%q: two lists of one answer share memory", s)
		}
	}
}

// spoil writes over all that d's lists hold.
func spoil(d *api.Def) {
	clear(d.Table.Cols)
	for _, e := range d.Table.Checks {
		clear(e)
	}
	clear(d.Table.Checks)
	clear(d.View.Where)
	clear(d.View.Pick)
	clear(d.View.Aggs)
}

// P1: no panic gets out, whatever its value is.
func TestAttempt(t *testing.T) {
	var none []int
	for i, c := range []struct {
		work func()
		want api.Errno
	}{
		{func() {}, api.OK}, {func() { require(true) }, api.OK}, {func() { require(false) }, api.ErrParse}, {func() { panic(failure{api.ErrLex}) }, api.ErrLex},
		{func() { panic("text") }, api.ErrParse}, {func() { panic(api.ErrLex) }, api.ErrParse}, {func() { _ = none[0] }, api.ErrParse}, {func() { panic(nil) }, api.ErrParse},
	} {
		if got := attempt(c.work); got != c.want {
			t.Errorf("%d: error %d, want %d", i, got, c.want)
		}
	}
}
