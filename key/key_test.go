package key

import (
	"encoding/binary"
	"math"
	"slices"
	"strings"
	"testing"

	"levee/api"
	"levee/value"
)

var (
	null = api.Value{}
	yes  = api.Value{Kind: api.Bool, N: 1}
	no   = api.Value{Kind: api.Bool}
)

func num(n int) api.Value     { return api.Value{Kind: api.Int, N: n} }
func text(s string) api.Value { return api.Value{Kind: api.Text, S: s} }

func list(l ...api.Value) []api.Value { return l }

// valid holds valid values, rising: ordinary ones and those at the edges.
func valid() []api.Value {
	return list(
		null, no, yes,
		num(math.MinInt), num(math.MinInt+1), num(-1<<32), num(-256), num(-2), num(-1),
		num(0), num(1), num(255), num(256), num(1<<32), num(math.MaxInt-1), num(math.MaxInt),
		text(""), text(strings.Repeat("\x00", 1000)), text("\x00\x01"), text("\x00\xff"), text("\x01"), text("\x01\x00"),
		text("a"), text("a\x00"), text("a\x00\x01"), text("a\x00b"), text("a\x01"), text("aa"),
		text(strings.Repeat("b", 999)), text(strings.Repeat("b", 1000)), text("\xff"), text("\xff\x00"), text(strings.Repeat("\xff", 1000)),
	)
}

// invalid holds values that are not valid: each kind with one field beyond its bounds, and kinds that are none.
func invalid() []api.Value {
	return list(
		api.Value{N: 1}, api.Value{N: -1}, api.Value{S: "a"},
		api.Value{Kind: api.Bool, N: 2}, api.Value{Kind: api.Bool, N: -1}, api.Value{Kind: api.Bool, N: 256}, api.Value{Kind: api.Bool, N: 257}, api.Value{Kind: api.Bool, S: "a"},
		api.Value{Kind: api.Int, S: "a"}, api.Value{Kind: api.Int, N: 5, S: "\x00"},
		api.Value{Kind: api.Text, N: 1}, api.Value{Kind: api.Text, N: -1, S: "a"},
		text(strings.Repeat("x", 1001)), text(strings.Repeat("\x00", 1001)), text(strings.Repeat("x", 100000)),
		api.Value{Kind: api.Kinds}, api.Value{Kind: 7}, api.Value{Kind: -1}, api.Value{Kind: 256}, api.Value{Kind: 258, N: 1},
		api.Value{Kind: math.MaxInt}, api.Value{Kind: math.MinInt},
	)
}

// lists returns no values, and all lists of one and of two of the values.
func lists(values []api.Value) [][]api.Value {
	l := [][]api.Value{nil}
	for _, a := range values {
		l = append(l, list(a))
		for _, b := range values {
			l = append(l, list(a, b))
		}
	}
	return l
}

// written is P2.2's encoding of valid values, word for word.
func written(l []api.Value) string {
	s := ""
	for _, v := range l {
		switch v.Kind {
		case api.Null:
			s += "\x01"
		case api.Bool:
			s += "\x02" + string([]byte{byte(v.N)})
		case api.Int:
			var b [8]byte
			binary.BigEndian.PutUint64(b[:], uint64(v.N)^1<<63)
			s += "\x03" + string(b[:])
		case api.Text:
			s += "\x04" + strings.Join(strings.Split(v.S, "\x00"), "\x00\xff") + "\x00\x01"
		}
	}
	return s
}

func short(s string) string {
	if len(s) > 60 {
		return s[:60] + ".."
	}
	return s
}

func expectDecoded(t *testing.T, s string, want []api.Value) {
	t.Helper()
	if got, ok := Decode(s); !ok || !slices.Equal(got, want) {
		t.Errorf("Decode of %q: %d values, %v; want %d values", short(s), len(got), ok, len(want))
	}
}

func expectRefused(t *testing.T, s string) {
	t.Helper()
	if got, ok := Decode(s); ok || len(got) != 0 {
		t.Errorf("Decode of %q: %d values, %v; want none and false", short(s), len(got), ok)
	}
}

// P2.1: cases written out by hand.
func TestCompareCases(t *testing.T) {
	rising := [][]api.Value{
		nil,
		{{Kind: math.MinInt, N: 5, S: "z"}}, {{Kind: -1}, num(9)},
		{{N: -1}}, {null}, {null, null}, {null, null, null}, {null, yes}, {null, text("")}, {{S: "a"}}, {{N: 1}},
		{no}, {no, text("z")}, {yes}, {yes, null}, {{Kind: api.Bool, N: 2}},
		{num(math.MinInt)}, {num(-5)}, {num(-1), text("z")}, {num(0)}, {num(0), num(-1)}, {num(0), num(1), num(5)}, {num(0), num(2)}, {num(10)}, {num(math.MaxInt)},
		{text("")}, {text(""), num(1)}, {text("\x00")}, {text("a")}, {text("a"), null}, {text("a"), text("z")}, {text("a\x00")}, {text("aa")}, {text("b")}, {text("\xff")}, {text(strings.Repeat("\xff", 5000))},
		{{Kind: api.Kinds}}, {{Kind: math.MaxInt}, null}, {{Kind: math.MaxInt}, {Kind: math.MaxInt}},
	}
	for i, a := range rising {
		for k, b := range rising {
			want := 0
			if i < k {
				want = -1
			} else if i > k {
				want = 1
			}
			if got := Compare(a, b); got != want {
				t.Errorf("lists %d and %d: %d, want %d", i, k, got, want)
			}
		}
	}
	if Compare(nil, []api.Value{}) != 0 || Compare([]api.Value{}, nil) != 0 {
		t.Error("nil and empty differ")
	}
}

// P2.1: the first values that differ decide, whatever stands behind them and wherever they are, valid or not.
func TestCompareFirst(t *testing.T) {
	all := append(valid(), invalid()...)
	long := slices.Repeat(list(num(3)), 1000)
	for _, a := range all {
		for _, b := range all {
			want := value.Compare(a, b)
			for _, ahead := range [][]api.Value{nil, {null}, {text("a"), num(1)}, long} {
				x, y := append(slices.Clone(ahead), a), append(slices.Clone(ahead), b)
				if got := Compare(x, y); got != want {
					t.Fatalf("%#v and %#v behind %d values: %d, want %d", a, b, len(ahead), got, want)
				}
				if got := Compare(append(x, text("z")), append(y, null)); want != 0 && got != want {
					t.Fatalf("%#v and %#v ahead of others: %d, want %d", a, b, got, want)
				}
				if got := Compare(x, append(y, null)); want != 0 && got != want || want == 0 && got != -1 {
					t.Fatalf("%#v and %#v, the second list longer: %d, want %d", a, b, got, want)
				}
			}
		}
	}
}

// P2.2: encodings written out by hand.
func TestEncodeCases(t *testing.T) {
	for _, c := range []struct {
		l []api.Value
		s string
	}{
		{nil, ""},
		{list(null), "\x01"},
		{list(null, null, null), "\x01\x01\x01"},
		{list(yes, no), "\x02\x01\x02\x00"},
		{list(num(0)), "\x03\x80\x00\x00\x00\x00\x00\x00\x00"},
		{list(num(5)), "\x03\x80\x00\x00\x00\x00\x00\x00\x05"},
		{list(num(-1)), "\x03\x7f\xff\xff\xff\xff\xff\xff\xff"},
		{list(num(-256)), "\x03\x7f\xff\xff\xff\xff\xff\xff\x00"},
		{list(num(0x0102030405060708)), "\x03\x81\x02\x03\x04\x05\x06\x07\x08"},
		{list(num(math.MinInt)), "\x03\x00\x00\x00\x00\x00\x00\x00\x00"},
		{list(num(math.MaxInt)), "\x03\xff\xff\xff\xff\xff\xff\xff\xff"},
		{list(text("")), "\x04\x00\x01"},
		{list(text("ab")), "\x04ab\x00\x01"},
		{list(text("\x00")), "\x04\x00\xff\x00\x01"},
		{list(text("\x01")), "\x04\x01\x00\x01"},
		{list(text("\xff")), "\x04\xff\x00\x01"},
		{list(text("\x00\x01")), "\x04\x00\xff\x01\x00\x01"},
		{list(text("\x00\xff")), "\x04\x00\xff\xff\x00\x01"},
		{list(text("\x00\x00")), "\x04\x00\xff\x00\xff\x00\x01"},
		{list(text("a\x00b"), null), "\x04a\x00\xffb\x00\x01\x01"},
		{list(text(""), text("")), "\x04\x00\x01\x04\x00\x01"},
		{list(text(strings.Repeat("x", 1000)), yes), "\x04" + strings.Repeat("x", 1000) + "\x00\x01\x02\x01"},
		{list(text(strings.Repeat("\x00", 1000))), "\x04" + strings.Repeat("\x00\xff", 1000) + "\x00\x01"},
	} {
		if got := Encode(c.l); got != c.s {
			t.Errorf("Encode: %q, want %q", short(got), short(c.s))
		}
		expectDecoded(t, c.s, c.l)
	}
	if Encode([]api.Value{}) != "" {
		t.Error("an empty list has bytes")
	}
}

// P2.2, P2.3: every list of up to two valid values, of every byte as a text, and of numbers around each power of two.
func TestEncodeAll(t *testing.T) {
	all := lists(valid())
	for b := range 256 {
		s := string([]byte{byte(b)})
		all = append(all, list(text(s)), list(text("a"+s+"b"), num(b)), list(text(s+s), text(s)))
	}
	for bit := range 63 {
		n := 1 << bit
		all = append(all, list(num(n-1), num(n), num(n+1)), list(num(-n-1), num(-n), num(-n+1)))
	}
	for _, l := range all {
		s := written(l)
		if got := Encode(l); got != s {
			t.Errorf("Encode: %q, want %q", short(got), short(s))
		}
		expectDecoded(t, s, l)
	}
}

// P2.2: one value that is not valid, wherever it stands, leaves nothing of the others.
func TestEncodeInvalid(t *testing.T) {
	for i, v := range invalid() {
		for _, l := range [][]api.Value{{v}, {v, v}, {num(1), v}, {v, text("a")}, {yes, v, null}} {
			if got := Encode(l); got != "" {
				t.Errorf("invalid %d among %d values: %q", i, len(l), short(got))
			}
		}
	}
}

// P2.2: bytes that no list is written as.
func TestDecodeWrong(t *testing.T) {
	const zeros = "\x00\x00\x00\x00\x00\x00\x00"
	wrong := []string{
		"\x00", "\x05", "\x06", "\x7f", "\x80", "\xff", "a", "\x01\x00", "\x01\x05\x01",
		"\x02", "\x02\x02", "\x02\x03", "\x02\xff", "\x02\x80", "\x02\x02\x01", "\x02\x01\x00",
		"\x03", "\x03\x00", "\x03" + zeros, "\x03\x80" + zeros + "\x00",
		"\x04", "\x04a", "\x04\x00", "\x04a\x00", "\x04\xff", "\x04\x01", "\x04\x00\xff", "\x04\x00\xff\x00", "\x04\x00\xff\x01",
		"\x04\x00\x00", "\x04\x00\x00\x01", "\x04\x00\x02\x00\x01", "\x04a\x00\xfe\x00\x01", "\x04\x00a\x00\x01", "\x04\x00\x80\x00\x01",
		"\x04a\x00\x01a", "\x04a\x00\x01\x00\x01",
		"\x04" + strings.Repeat("x", 1001) + "\x00\x01",
		"\x04" + strings.Repeat("\x00\xff", 1001) + "\x00\x01",
		"\x04" + strings.Repeat("x", 1000) + "\x00\xff\x00\x01",
		"\x04" + strings.Repeat("x", 100000),
	}
	for _, s := range wrong {
		expectRefused(t, s)
		for _, ahead := range [][]api.Value{{null}, {num(7)}, {text("a\x00"), yes}} {
			expectRefused(t, Encode(ahead)+s)
		}
	}
	for b := range 256 {
		mark := string([]byte{byte(b)})
		if b == 0 || b > 4 {
			expectRefused(t, mark)
			expectRefused(t, mark+zeros+zeros)
		}
		if b > 1 {
			expectRefused(t, "\x02"+mark)
		}
		if b != 1 && b != 255 {
			expectRefused(t, "\x04a\x00"+mark+"\x00\x01")
		}
	}
}

// P2.2: what is cut off between two values is a shorter list; what is cut off within a value is none.
func TestDecodeCut(t *testing.T) {
	for _, l := range [][]api.Value{
		{null, yes, num(-5), text("a\x00b"), no, text(""), num(math.MaxInt), null, text("\x00\x01\xff")},
		{text(strings.Repeat("\x00", 1000)), text(strings.Repeat("\xff", 1000)), num(math.MinInt)},
	} {
		whole := map[int][]api.Value{}
		for n := range len(l) + 1 {
			whole[len(written(l[:n]))] = l[:n]
		}
		s := written(l)
		for at := range len(s) + 1 {
			if part, ok := whole[at]; ok {
				expectDecoded(t, s[:at], part)
			} else {
				expectRefused(t, s[:at])
			}
		}
	}
}

// P2.2: of all short strings of the bytes that mean something, those are decoded that a list is written as, and no others.
func TestDecodeExactly(t *testing.T) {
	const signs, most = "\x00\x01\x02\x04\x05\xff", 7
	strs := func(size int) []string {
		all, last := []string{""}, []string{""}
		for range size {
			var next []string
			for _, s := range last {
				for i := range len(signs) {
					next = append(next, s+signs[i:i+1])
				}
			}
			all, last = append(all, next...), next
		}
		return all
	}
	values := list(null, no, yes)
	for _, s := range strs(most - 3) {
		values = append(values, text(s))
	}
	// No list of this alphabet is left out: a text's encoding has its own bytes, and three or more others.
	lists := map[string][]api.Value{}
	var extend func(l []api.Value)
	extend = func(l []api.Value) {
		s := written(l)
		if len(s) > most {
			return
		}
		lists[s] = slices.Clone(l)
		for _, v := range values {
			extend(append(l[:len(l):len(l)], v))
		}
	}
	extend(nil)
	for _, s := range strs(most) {
		if l, ok := lists[s]; ok {
			expectDecoded(t, s, l)
		} else {
			expectRefused(t, s)
		}
	}
}

// P2.3: encodings are ordered exactly as lists are.
func TestOrder(t *testing.T) {
	all := lists(valid())
	for _, v := range valid() {
		all = append(all, list(text("a"), v, null), list(text("a"), text("a"), v), list(num(0), v, text("\x00")))
	}
	encoded := make([]string, len(all))
	for i, l := range all {
		encoded[i] = Encode(l)
	}
	for i, a := range all {
		for k, b := range all {
			if got, want := strings.Compare(encoded[i], encoded[k]), Compare(a, b); got != want {
				t.Fatalf("%q and %q: %d, but the lists: %d", short(encoded[i]), short(encoded[k]), got, want)
			}
		}
	}
}

// P2.3: the valid values rise, and so do the lists of one of them.
func TestOrderOfValues(t *testing.T) {
	values := valid()
	for i := range len(values) - 1 {
		if a, b := Encode(values[i:i+1]), Encode(values[i+1:i+2]); a >= b {
			t.Errorf("%q is not below %q", short(a), short(b))
		}
	}
}

// R1: long lists and long strings are not too much.
func TestLong(t *testing.T) {
	l := slices.Repeat(list(null, yes, num(-3), text("a\x00b")), 50000)
	s := Encode(l)
	if s != strings.Repeat(written(l[:4]), 50000) {
		t.Error("the encoding of a long list is off:", len(s), "bytes")
	}
	expectDecoded(t, s, l)
	if Compare(l, l) != 0 || Compare(l, append(slices.Clone(l), null)) != -1 {
		t.Error("long lists are not ordered")
	}
	if Encode(append(slices.Clone(l), api.Value{Kind: 9})) != "" {
		t.Error("the last value is not valid, but the list has bytes")
	}
	expectRefused(t, s+"\x00")
	expectRefused(t, "\x04"+strings.Repeat("\x00\xff", 1000000))
	expectDecoded(t, strings.Repeat("\x01", 1000000), make([]api.Value, 1000000))
}

// R4: arguments stay as they are, and answers are new memory.
func TestKeepsArguments(t *testing.T) {
	l := list(text("b"), null, num(3), yes, text("a\x00"))
	before := slices.Clone(l)
	s := Encode(l)
	Encode(append(slices.Clone(l), api.Value{Kind: 9}))
	Compare(l, l[:2])
	if !slices.Equal(l, before) {
		t.Error("arguments were changed:", l)
	}
	got, _ := Decode(s)
	got[0] = null
	expectDecoded(t, s, before)
}
