package stmt

import (
	"math"
	"slices"
	"strings"
	"testing"

	"levee/api"
)

// P8.1: the chapter's example.
func TestExample(t *testing.T) {
	x := of(api.StPut, "t", num(1), null())
	expectParsed(t, "put t (1, null)", x)
	expectPair(t, "put t ( 1 , null )", x)
}

// P8.1: each of the six statements, whose numbers are the chapter's.
func TestStatements(t *testing.T) {
	for i, do := range []int{api.StGet, api.StScan, api.StPut, api.StSet, api.StCut, api.StLook} {
		if i != do {
			t.Errorf("statement %d has the number %d", i, do)
		}
	}
	expectPair(t, "get t 1", of(0, "t", num(1)))
	expectPair(t, "scan t 1 9", of(1, "t", num(1), num(9)))
	expectPair(t, "put t ( 1 , 'a' )", of(2, "t", num(1), text("a")))
	expectPair(t, "set t ( 1 , 'a' )", of(3, "t", num(1), text("a")))
	expectPair(t, "cut t 1", of(4, "t", num(1)))
	expectPair(t, "look v", of(5, "v"))
	// Whether keys are of one kind, or rise, is not asked here.
	expectPair(t, "scan t 9 1", of(1, "t", num(9), num(1)))
	expectPair(t, "scan t 'b' null", of(1, "t", text("b"), null()))
	expectPair(t, "scan t 1 1", of(1, "t", num(1), num(1)))
}

// P8.1: blanks are needed only where tokens would run together.
func TestBlanks(t *testing.T) {
	for s, x := range map[string]api.Stmt{
		"  get   t   1  ": of(api.StGet, "t", num(1)), "get t'a'": of(api.StGet, "t", text("a")), "get t-1": of(api.StGet, "t", num(-1)), "cut t''": of(api.StCut, "t", text("")),
		"scan t 1'a'": of(api.StScan, "t", num(1), text("a")), "scan t'a'1": of(api.StScan, "t", text("a"), num(1)), "scan t 1-1": of(api.StScan, "t", num(1), num(-1)), "scan t-1null": of(api.StScan, "t", num(-1), null()), "scan t'a' 'b'": of(api.StScan, "t", text("a"), text("b")),
		"put t()": of(api.StPut, "t"), "set t (  ) ": of(api.StSet, "t"), "put t(1,null)": of(api.StPut, "t", num(1), null()), "set t(true,'a',-5)": of(api.StSet, "t", yes(), text("a"), num(-5)), " look  v ": of(api.StLook, "v"),
	} {
		expectParsed(t, s, x)
	}
	// What is one token without the blank.
	for _, s := range []string{"gett 1", "get t1", "get tnull", "scan t truefalse", "scan t 1 nullnull", "scan t 12", "scan t 'a''b'", "lookv", "putt()", "put t(truenull)", "cut t0"} {
		expectRefused(t, s, api.ErrParse)
	}
}

// P8.1: each form of a value, in each place where a value stands.
func TestValues(t *testing.T) {
	for s, v := range someValues() {
		expectPair(t, "get t "+s, of(api.StGet, "t", v))
		expectPair(t, "cut t "+s, of(api.StCut, "t", v))
		expectPair(t, "scan t "+s+" 5", of(api.StScan, "t", v, num(5)))
		expectPair(t, "scan t null "+s, of(api.StScan, "t", null(), v))
		for do, w := range map[int]string{api.StPut: "put", api.StSet: "set"} {
			expectPair(t, w+" t ( "+s+" )", of(do, "t", v))
			expectPair(t, w+" t ( "+s+" , "+s+" )", of(do, "t", v, v))
			expectPair(t, w+" t ( 'b' , "+s+" , true )", of(do, "t", text("b"), v, yes()))
		}
		expectRefused(t, "look t "+s, api.ErrParse)
		expectPrinted(t, of(api.StLook, "t", v), "")
	}
}

// noValues returns tokens that are no values, though some of them look like it.
func noValues() []string {
	return []string{"x", "t", "c0", "get", "look", "nul", "nulls", "int", "not", "and", "text", "t1", "true_", "(", ")", "[", "]", ",", "=", "<", "+", "-", "*", "?", "[ 1 ]", "( 1 )", "( )", "- 1", "+ 1", "- 'a'", "0x"}
}

// P8.1: what is no value, in each place where a value stands.
func TestNoValues(t *testing.T) {
	for _, s := range noValues() {
		for _, text := range []string{"get t @", "cut t @", "scan t @ 5", "scan t 5 @", "scan t @ @", "put t ( @ )", "set t ( @ )", "put t ( @ , 1 )", "set t ( 1 , @ )", "put t ( 1 , @ , 2 )", "set t ( @ , @ )", "look v @"} {
			expectRefused(t, strings.ReplaceAll(text, "@", s), api.ErrParse)
		}
	}
	for _, s := range []string{"00", "01", "-0", "-01", "9223372036854775808", "-9223372036854775809", "1.5", "'a", "'a''", "'" + strings.Repeat("x", 1001) + "'", "'" + strings.Repeat("''", 1001) + "'", "A", "NULL", "True", "_", "\"a\"", "#", "\n", strings.Repeat("w", 31)} {
		for _, text := range []string{"get t @", "cut t @", "scan t @ 5", "scan t 5 @", "put t ( @ )", "set t ( 1 , @ )", "look v @"} {
			expectRefused(t, strings.ReplaceAll(text, "@", s), api.ErrLex)
		}
	}
}

// forms returns statements of every kind, with a name in them for @.
func forms() map[string]func(name string) api.Stmt {
	return map[string]func(name string) api.Stmt{
		"get @ 1":            func(n string) api.Stmt { return of(api.StGet, n, num(1)) },
		"get @ null":         func(n string) api.Stmt { return of(api.StGet, n, null()) },
		"scan @ 'a' 'b'":     func(n string) api.Stmt { return of(api.StScan, n, text("a"), text("b")) },
		"put @ ( )":          func(n string) api.Stmt { return of(api.StPut, n) },
		"put @ ( 1 , true )": func(n string) api.Stmt { return of(api.StPut, n, num(1), yes()) },
		"set @ ( )":          func(n string) api.Stmt { return of(api.StSet, n) },
		"set @ ( -1 )":       func(n string) api.Stmt { return of(api.StSet, n, num(-1)) },
		"cut @ false":        func(n string) api.Stmt { return of(api.StCut, n, no()) },
		"look @":             func(n string) api.Stmt { return of(api.StLook, n) },
	}
}

// P8.1: which words are names: the words of definitions and those that are values are not, those of statements are.
func TestNames(t *testing.T) {
	for form, x := range forms() {
		for _, name := range goodNames() {
			expectPair(t, strings.ReplaceAll(form, "@", name), x(name))
		}
		for _, name := range slices.Concat(quotedWords(), []string{"", "1", "-1", "'a'", "'t'", "''", "(", "( t )", ",", "?", "a b", "t t", "a , b", "t ,", "c 5", "[ a ]", "1a"}) {
			expectRefused(t, strings.ReplaceAll(form, "@", name), api.ErrParse)
		}
		for _, name := range []string{"_", "T", "a.b", "é", "'", "t;", strings.Repeat("w", 31)} {
			expectRefused(t, strings.ReplaceAll(form, "@", name), api.ErrLex)
		}
		for _, name := range badNames() {
			expectPrinted(t, x(name), "")
		}
	}
}

// P8.1: puts and sets of 0, 1, 40 and 41 values, and of about as many.
func TestRowLengths(t *testing.T) {
	for w, do := range map[string]int{"put": api.StPut, "set": api.StSet} {
		for s, v := range map[string]api.Value{"1": num(1), "null": null(), "'a'": text("a"), "false": no()} {
			expectPair(t, w+" t ( )", of(do, "t"))
			expectPrinted(t, api.Stmt{Do: do, Name: "t", Row: api.Row{}}, w+" t ( )")
			for _, n := range []int{1, 2, 39, 40, 41, 42, 80, 400} {
				x := of(do, "t", slices.Repeat([]api.Value{v}, n)...)
				long := w + " t ( " + strings.Join(slices.Repeat([]string{s}, n), " , ") + " )"
				if n <= 40 {
					expectPair(t, long, x)
					continue
				}
				expectRefused(t, long, api.ErrParse)
				expectPrinted(t, x, "")
			}
		}
	}
}

// P8.1: gets, scans, cuts and looks with too few and too many values.
func TestCounts(t *testing.T) {
	for w, right := range map[string]int{"get": 1, "scan": 2, "cut": 1, "look": 0} {
		do := slices.Index(ownWords(), w)
		for _, n := range []int{0, 1, 2, 3, 4, 39, 40, 41, 100} {
			for s, v := range map[string]api.Value{"7": num(7), "null": null(), "'a'": text("a")} {
				x, s := of(do, "t", slices.Repeat([]api.Value{v}, n)...), w+" t"+strings.Repeat(" "+s, n)
				if n == right {
					expectPair(t, s, x)
					continue
				}
				expectRefused(t, s, api.ErrParse)
				expectPrinted(t, x, "")
			}
		}
	}
}

// P8.1: no tokens, and what is not a whole statement, or more than one.
func TestNoStatements(t *testing.T) {
	for _, s := range []string{
		"", " ", "    ", "t", "1", "'get t 1'", "null", "(", "()", ",", "?", "x t 1", "make t 1", "gets t 1", "ge t 1", "put_ t ()", "delete t 1", "insert t (1)", "table t(k int)", "view v from t pick", "table t 1", "begin", "commit",
		"get", "scan", "put", "set", "cut", "look", "t get 1", "1 get t", "get 1 t", "1 t get", "look 1", "v look", "'get' t 1", "'look' v", "'put' t ()", "get 't' 1", "look 'v'",
		"get t", "scan t", "scan t 1", "put t", "set t", "cut t", "get 1", "scan 1 2", "put ()", "put (1)", "set (1)", "cut 1", "t 1", "t (1)", "get get", "get get t 1", "get t t 1", "get t 1 1", "get t 1 get", "put put t ()", "put t t ()", "put t () ()", "put t (1) (1)", "put t (1) 1", "put t 1 (1)", "look look v", "look v v", "look v look v",
		"get t (1)", "get t ()", "scan t (1, 2)", "scan t (1) (2)", "scan t (1 2)", "cut t (1)", "look v ()", "look (v)", "get (t) 1", "get t 1,", "get t ,1", "get t, 1", "get, t 1", "get t 1, 2", "scan t 1, 2", "scan t, 1 2", "scan t 1 2,", "cut t 1,", "look v,", ", look v",
		"put t 1", "put t 1, 2", "put t (", "put t )", "put t )(", "put t (1", "put t 1)", "put t (1, 2", "put t 1, 2)", "put t (1,", "put t (1,)", "put t (,1)", "put t (,)", "put t (,,)", "put t (1,,2)", "put t (1,2,)", "put t (,1,2)", "put t (1 2)", "put t (1 2, 3)", "put t (1, 2 3)", "put t (1 , 2 , )", "put t ((1))", "put t ((1), 2)", "put t (())", "put t ()()", "put t (1))", "put t ((1)", "put t ())", "put t (()", "put t (1), (2)", "put t [1]", "put t []", "put t (1]", "put t [1)", "put t '(' 1 ')'", "put t '(1)'", "put t (1',')", "put t (1 ',' 2)", "put (t) (1)", "put (t (1))", "(put t (1))", "put t, (1)", "put t ,(1)", "put t (1),", "put, t (1)", "put t (t)", "put t (k 1)", "put t (k = 1)", "put t (1 = 1)", "put t (1 + 1)", "put t (null ?)", "put t (not true)", "put t (1) where", "put t values (1)",
		"set t 1", "set t (", "set t )", "set t (1", "set t (1,)", "set t (,1)", "set t (,)", "set t (1,,2)", "set t (1 2)", "set t ((1))", "set t ()()", "set t () 1", "set t 1 ()",
		"get t 1 x", "get t 1 1", "get t 1 'a'", "get t 1 ?", "get t 1 )", "get t 1 get t 1", "scan t 1 2 x", "scan t 1 2 3", "scan t 1 2 scan t 1 2", "put t () x", "put t () 1", "put t (1) ?", "put t (1) put t (1)", "set t () look v", "cut t 1 x", "cut t 1 2", "cut t 1 cut t 1", "look v x", "look v 1", "look v null", "look v ?", "look v get t 1",
	} {
		expectRefused(t, s, api.ErrParse)
	}
}

// P8.1: where lex.Lex has an error, it is that one, whatever else is wrong.
func TestLexErrors(t *testing.T) {
	for _, s := range []string{
		"!", "get t A", "get T 1", "GET t 1", "get t 1;", "get t 1\n", "get\tt 1", "put t (1, 'a)", "put t (01)", "look v!", "look _", "get !", "x !", "put table ( !", "get t 1 2 '", "put t (,) -0", "get t 9223372036854775808", "get t -9223372036854775809", "get t '" + strings.Repeat("x", 1001) + "'", "look " + strings.Repeat("v", 31), "put t (1.5)", "get t \"a\"",
		"put t (" + strings.Repeat("1,", 41) + "01)", strings.Repeat(" ", 20001), "look v" + strings.Repeat(" ", 20000), strings.Repeat("a ", 20000), "put t (" + strings.Repeat("1,", 100000) + "1)", "\x00", "\xff", "é",
	} {
		expectRefused(t, s, api.ErrLex)
	}
	expectParsed(t, "look v"+strings.Repeat(" ", 20000-len("look v")), of(api.StLook, "v"))
	expectRefused(t, strings.Repeat(" ", 20000), api.ErrParse)
	expectRefused(t, "put t("+strings.Repeat("1,", 9990)+"1)", api.ErrParse)
}

// P8.1: statements of kinds that there are not.
func TestUnprintableKinds(t *testing.T) {
	for _, do := range []int{-1, -2, api.Sts, api.Sts + 1, 100, 256, 257, 258, 1 << 32, 1<<32 + 2, math.MaxInt, math.MinInt, math.MinInt + 2} {
		for n := range 4 {
			expectPrinted(t, of(do, "t", slices.Repeat([]api.Value{num(1)}, n)...), "")
		}
	}
	expectPrinted(t, api.Stmt{}, "")
}

// P8.1: values that are not valid, in each place where a value stands.
func TestUnprintableValues(t *testing.T) {
	for _, v := range badValues() {
		for _, x := range []api.Stmt{of(api.StGet, "t", v), of(api.StCut, "t", v), of(api.StScan, "t", v, num(1)), of(api.StScan, "t", num(1), v), of(api.StLook, "v", v)} {
			expectPrinted(t, x, "")
		}
		for _, do := range []int{api.StPut, api.StSet} {
			for _, n := range []int{1, 2, 3, 40} {
				for at := range n {
					row := slices.Repeat([]api.Value{num(1)}, n)
					row[at] = v
					expectPrinted(t, of(do, "t", row...), "")
				}
			}
		}
	}
}

// P8.1, P8.2: prints of 20000 bytes and of about as many.
func TestPrintLengths(t *testing.T) {
	for w, do := range map[string]int{"put": api.StPut, "set": api.StSet} {
		for written, inside := range map[string]string{"x": "x", "''": "'", "\n": "\n", "\xff": "\xff"} {
			row, parts := api.Row{}, []string{}
			for range 18 / len(written) {
				row, parts = append(row, text(strings.Repeat(inside, 1000))), append(parts, "'"+strings.Repeat(written, 1000)+"'")
			}
			// Two texts more fill up what is left.
			left := 20000 - len(w+" long_name ( "+strings.Join(parts, " , ")+" , '' , '' )")
			for more := -2; more <= 2; more++ {
				half := (left + more) / 2
				ends := []string{strings.Repeat("y", half), strings.Repeat("z", left+more-half)}
				x := of(do, "long_name", slices.Concat(row, api.Row{text(ends[0]), text(ends[1])})...)
				s := w + " long_name ( " + strings.Join(append(slices.Clone(parts), "'"+ends[0]+"'", "'"+ends[1]+"'"), " , ") + " )"
				if len(s) != 20000+more {
					t.Fatalf("the test's print has %d bytes, with %d more than 20000", len(s), more)
				}
				if more <= 0 {
					expectPair(t, s, x)
					continue
				}
				expectRefused(t, s, api.ErrLex)
				expectPrinted(t, x, "")
			}
		}
	}
	expectPrinted(t, of(api.StPut, "t", slices.Repeat([]api.Value{text(strings.Repeat("'", 1000))}, 40)...), "")
}

// P8.1: what is parsed of a text without blanks may have no print, because with blanks it is too long.
func TestParsedUnprinted(t *testing.T) {
	inside := strings.Repeat("x", 995)
	s := "put t(" + strings.TrimSuffix(strings.Repeat("'"+inside+"',", 20), ",") + ")"
	x := of(api.StPut, "t", slices.Repeat([]api.Value{text(inside)}, 20)...)
	if len(s) > 20000 || len(s)+40 < 20000 {
		t.Fatal(len(s))
	}
	expectParsed(t, s, x)
	expectPrinted(t, x, "")
}

// R1: statements of any size have an answer.
func TestPrintHuge(t *testing.T) {
	long := strings.Repeat("a", 1<<24)
	for do := -1; do <= api.Sts; do++ {
		for _, x := range []api.Stmt{of(do, long), of(do, long, num(1)), of(do, long, num(1), num(2)), of(do, "t", text(long)), of(do, "t", text(long), text(long)), of(do, "t", make(api.Row, 1000000)...), of(do, "t", slices.Repeat(api.Row{text(long)}, 1000)...), of(do, strings.Repeat("(", 1<<20), num(1))} {
			expectPrinted(t, x, "")
		}
	}
	for _, s := range []string{long, "get t " + long, "put t (" + long, strings.Repeat("(", 1<<24), "put t (" + strings.Repeat("(", 1<<24)} {
		expectRefused(t, s, api.ErrLex)
	}
}

// R4: no call changes a list that it was given, nor what stands behind it.
func TestKept(t *testing.T) {
	for _, x := range []api.Stmt{
		of(api.StGet, "t", num(1)), of(api.StScan, "t", text("it's"), null()), of(api.StPut, "t", num(1), text("a"), yes()), of(api.StSet, "t"), of(api.StCut, "t", no()), of(api.StLook, "v"), of(api.StLook, "v", num(1)), of(api.StPut, "int", num(1)), of(api.StSet, "t", num(1), api.Value{Kind: api.Kinds}, num(2)), of(api.Sts, "t", num(1)), of(-1, "t", num(1), num(2)),
	} {
		n := len(x.Row)
		whole := append(slices.Clone(x.Row), num(8), text("room"))
		before := slices.Clone(whole)
		x.Row = whole[:n]
		Print(x)
		if !slices.Equal(whole, before) {
			t.Errorf("the values %v are changed: %v", before, whole)
		}
	}
}

// R4: answers share no memory with each other.
func TestNewMemory(t *testing.T) {
	for _, s := range []string{"get t 1", "scan t 'a' null", "put t ( 1 , 'a' , true )", "set t ( null , -5 )", "cut t false"} {
		first, _ := Parse(s)
		second, _ := Parse(s)
		want := second
		want.Row = slices.Clone(second.Row)
		for i := range first.Row {
			first.Row[i] = num(99)
		}
		_ = append(first.Row, num(99))
		if !equal(second, want) {
			t.Errorf("%q: two answers share memory", s)
		}
		expectPair(t, s, want)
	}
}
