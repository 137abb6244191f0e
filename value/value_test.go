package value_test

import (
	"math"
	"slices"
	"strings"
	"testing"

	"pavane/api"
	"pavane/utf"
	"pavane/value"
)

func number(n int64) api.Value { return api.Value{Kind: api.Int, N: n} }

func truth(n int64) api.Value { return api.Value{Kind: api.Bool, N: n} }

func text(s string) api.Value { return api.Value{Kind: api.Text, S: s} }

func of(name string, v api.Value) api.Var { return api.Var{Name: name, Val: v} }

func decl(name string, kind int) api.Decl { return api.Decl{Name: name, Kind: kind} }

// wrongValues are values that may not be.
var wrongValues = []api.Value{
	{}, {Kind: 0, N: 1}, {Kind: 0, S: "a"}, {Kind: 4}, {Kind: 4, N: 1}, {Kind: -1}, {Kind: math.MaxInt}, {Kind: math.MinInt}, {Kind: 257}, {Kind: 1<<32 + 1},
	{Kind: api.Int, S: "a"}, {Kind: api.Int, N: 5, S: "5"}, {Kind: api.Int, S: "\x00"},
	{Kind: api.Bool, N: 2}, {Kind: api.Bool, N: -1}, {Kind: api.Bool, N: math.MinInt64}, {Kind: api.Bool, N: 1<<32 + 1}, {Kind: api.Bool, N: 1, S: "true"}, {Kind: api.Bool, S: "a"},
	{Kind: api.Text, N: 1}, {Kind: api.Text, N: -1, S: "a"}, {Kind: api.Text, N: math.MinInt64, S: "a"},
	text(strings.Repeat("a", 65)), text(strings.Repeat("\u00e9", 32) + "a"), text(strings.Repeat("\U0001f600", 17)),
	text("\x00"), text("\x1f"), text("a\x08b"), text("a\x0b"), text("\x0c"), text("\ufffe"), text("a\uffff"),
	text("\x80"), text("a\xff"), text("\xc3"), text("\xc3a"), text("\xc0\x80"), text("\xed\xa0\x80"), text("\xf4\x90\x80\x80"), text("a\xe2\x82"),
}

// texts are values that may be, and their texts.
var texts = []struct {
	v api.Value
	s string
}{
	{number(0), "0"}, {number(5), "5"}, {number(-5), "-5"}, {number(10), "10"}, {number(-1), "-1"}, {number(1000000), "1000000"},
	{number(math.MaxInt64), "9223372036854775807"}, {number(math.MinInt64), "-9223372036854775808"}, {number(math.MinInt64 + 1), "-9223372036854775807"},
	{truth(0), "false"}, {truth(1), "true"},
	{text(""), `""`}, {text("a"), `"a"`}, {text(`a"b`), `"a\"b"`}, {text(`"`), `"\""`}, {text(`""`), `"\"\""`},
	{text(`\`), `"\\"`}, {text(`\\`), `"\\\\"`}, {text(`\"`), `"\\\""`}, {text(`"\`), `"\"\\"`}, {text(`\n`), `"\\n"`}, {text(`a\`), `"a\\"`},
	{text("true"), `"true"`}, {text("5"), `"5"`}, {text(" "), `" "`}, {text("'"), `"'"`}, {text("a=b c"), `"a=b c"`},
	{text("\t\n\r"), "\"\t\n\r\""}, {text("\x7f"), "\"\x7f\""},
	{text("\u0080\u00e9\u20ac\ud7ff\ue000\ufffd\U0001f600\U0010ffff"), "\"\u0080\u00e9\u20ac\ud7ff\ue000\ufffd\U0001f600\U0010ffff\""},
	{text(strings.Repeat("a", 64)), `"` + strings.Repeat("a", 64) + `"`},
	{text(strings.Repeat(`"`, 64)), `"` + strings.Repeat(`\"`, 64) + `"`},
	{text(strings.Repeat(`\`, 64)), `"` + strings.Repeat(`\\`, 64) + `"`},
	{text(strings.Repeat("\u00e9", 32)), `"` + strings.Repeat("\u00e9", 32) + `"`},
	{text(strings.Repeat("\U0001f600", 16)), `"` + strings.Repeat("\U0001f600", 16) + `"`},
}

// P11.1: names, at the edges of their length and of what may stand in them.
func TestName(t *testing.T) {
	right := []string{
		"a", "z", "A", "Z", "_", "__", "_1", "_-", "a1", "a-", "a--9", "a_b-c0", "true", "len", "aB", "z9-_Z",
		strings.Repeat("a", 32), "a" + strings.Repeat("-", 31), "_" + strings.Repeat("9", 31),
	}
	for _, s := range right {
		if !value.Name(s) {
			t.Errorf("Name(%q): false", s)
		}
	}
	wrong := []string{
		"", "0", "9", "-", "1a", "-a", "9_", "--", " ", " a", "a ", "a b", "a.b", "a:b", ".", "a+", "a=1", "\x00", "a\x00", "a\n", "\"a\"",
		"\u00e9", "a\u00e9", "\u0430", "a\uff11", "\xff", "a\xc3", "\U0001d44e",
		strings.Repeat("a", 33), strings.Repeat("a", 64), "a" + strings.Repeat("-", 32), strings.Repeat("a", 100000),
	}
	for _, s := range wrong {
		if value.Name(s) {
			t.Errorf("Name(%q): true", s)
		}
	}
}

// P11.1: each byte at each place of names of some lengths.
func TestNameOfAllBytes(t *testing.T) {
	const first = "ABCDEFGHIJKLMNOPQRSTUVWXYZabcdefghijklmnopqrstuvwxyz_"
	for length := 1; length <= 33; length++ {
		for at := range length {
			for c := range 256 {
				b := []byte(strings.Repeat("k", length))
				b[at] = byte(c)
				want := length < 33 && (strings.IndexByte(first, byte(c)) >= 0 || at > 0 && strings.IndexByte("0123456789-", byte(c)) >= 0)
				if value.Name(string(b)) != want {
					t.Fatalf("Name(%q): %v", b, !want)
				}
			}
		}
	}
}

// P11.1: which values may be.
func TestMay(t *testing.T) {
	for _, x := range texts {
		if !value.May(x.v) {
			t.Errorf("May(%+v): false", x.v)
		}
	}
	for _, v := range wrongValues {
		if value.May(v) {
			t.Errorf("May(%+v): true", v)
		}
	}
}

// P11.1, P11.2: each character may stand in a Text, ahead of others and behind
// them, and nothing else.
func TestMayOfAllRunes(t *testing.T) {
	for r := int32(0); r <= 0x10ffff; r++ {
		s := utf.Put(r)
		if s == "" {
			continue
		}
		for _, v := range []api.Value{text(s), text("a" + s), text(s + "a")} {
			if value.May(v) != utf.Char(r) {
				t.Fatalf("May(%+q): %v", v.S, !utf.Char(r))
			}
		}
		v := text("a" + s)
		x, ok := value.Parse(value.Print(v))
		if ok != utf.Char(r) || ok && x != v {
			t.Fatalf("%+q, printed and parsed: %+v, %v", v.S, x, ok)
		}
		if _, ok := value.Parse(`"` + s + `"`); ok != (utf.Char(r) && r != '"' && r != '\\') {
			t.Fatalf("%+q between quotes, parsed: %v", s, ok)
		}
	}
}

// P11.1: the zero of each kind, and of what is none.
func TestZero(t *testing.T) {
	for kind, s := range map[int]string{api.Int: "0", api.Bool: "false", api.Text: `""`} {
		v := value.Zero(kind)
		if v != (api.Value{Kind: kind}) || !value.May(v) || value.Print(v) != s {
			t.Errorf("Zero(%d): %+v", kind, v)
		}
	}
	for _, kind := range []int{0, 4, 5, -1, -3, 257, 1<<32 + 1, math.MaxInt, math.MinInt} {
		if v := value.Zero(kind); v != (api.Value{}) {
			t.Errorf("Zero(%d): %+v", kind, v)
		}
	}
}

// P11.2: values and their texts.
func TestPrintAndParse(t *testing.T) {
	for _, x := range texts {
		if s := value.Print(x.v); s != x.s {
			t.Errorf("Print(%+v): %s, want %s", x.v, s, x.s)
		}
		if v, ok := value.Parse(x.s); !ok || v != x.v {
			t.Errorf("Parse(%s): %+v, %v", x.s, v, ok)
		}
	}
	for _, v := range wrongValues {
		if s := value.Print(v); s != "" {
			t.Errorf("Print(%+v): %q, want nothing", v, s)
		}
	}
}

// P11.2: what is no value's text.
func TestParseOfNone(t *testing.T) {
	wrong := []string{
		"", " ", "a", "-", "+", "--5", "+5", "+0", "-0", "00", "05", "-05", "005", "0x5", "0b1", "0o7", "1_000", "1e3", "5.", "5.0", ".5", "5 ", " 5", "5\n", "- 5", "5-", "\u0665", "\uff15",
		"9223372036854775808", "-9223372036854775809", "18446744073709551615", "18446744073709551616", "-18446744073709551616", "99999999999999999999", "09223372036854775807", strings.Repeat("9", 1000), strings.Repeat("0", 131), "-" + strings.Repeat("0", 200),
		"True", "TRUE", "False", "t", "tru", "truee", "true ", " true", "fals", "\"true", "nil",
		`"`, `"a`, `a"`, `'a'`, `"a'`, `'a"`, `"a" `, ` "a"`, `"a"b"`, `"a""`, `""a`, `"""`, `"\"`, `"\`, `\""`, `"a\"`, `"\\\"`, `"\n"`, `"\a"`, `"\u0041"`, `"\'"`, `"\ "`, `"a"b`, `"a\\"b"`, "`a`",
		"\"\x00\"", "\"\x1f\"", "\"\ufffe\"", "\"\uffff\"", "\"\xff\"", "\"\xc3\"", "\"\xc3", "\"\xed\xa0\x80\"", "\"\xc0\x80\"", "\xff", "\x00",
		`"` + strings.Repeat("a", 65) + `"`, `"` + strings.Repeat("a", 64), strings.Repeat("a", 64) + `"`, `"` + strings.Repeat(`\"`, 65) + `"`, `"` + strings.Repeat(`\\`, 64) + `a"`, `"` + strings.Repeat("\u00e9", 32) + `a"`, `"` + strings.Repeat("a", 1<<20) + `"`,
	}
	for _, s := range wrong {
		if v, ok := value.Parse(s); ok || v != (api.Value{}) {
			t.Errorf("Parse(%q): %+v, %v", s, v, ok)
		}
	}
}

// upTo answers n variables that may be.
func upTo(n int) []api.Var {
	var l []api.Var
	for i := range n {
		l = append(l, of("v"+string(rune('a'+i)), number(int64(i))))
	}
	return l
}

// P11.1: which variables may be.
func TestVars(t *testing.T) {
	right := [][]api.Var{
		nil, {}, {of("a", number(1))}, {of("a", number(1)), of("b", truth(1))},
		{of("A", number(1)), of("B", number(1)), of("_", number(1)), of("a", number(1))},
		{of("a", number(1)), of("a-", number(1)), of("a0", number(1)), of("aA", number(1)), of("a_", number(1)), of("aa", number(1))},
		{of(strings.Repeat("a", 31), text("")), of(strings.Repeat("a", 32), text(strings.Repeat("b", 64)))},
		upTo(15), upTo(16),
	}
	for _, l := range right {
		if !value.Vars(l) {
			t.Errorf("Vars(%+v): false", l)
		}
	}
	wrong := [][]api.Var{
		{{}}, {of("", number(1))}, {of("1", number(1))}, {of("a b", number(1))}, {of(strings.Repeat("a", 33), number(1))},
		{of("b", number(1)), of("a", number(1))}, {of("a", number(1)), of("a", number(1))}, {of("a", number(1)), of("a", text("x"))},
		{of("a", number(1)), of("B", number(1))}, {of("_", number(1)), of("Z", number(1))}, {of("aa", number(1)), of("a", number(1))}, {of("a10", number(1)), of("a1", number(1))}, {of("a9", number(1)), of("a10", number(1))},
		{of("a", number(1)), of("c", number(1)), of("b", number(1))}, {of("a", number(1)), of("c", number(1)), of("c", number(1))}, {of("a", number(1)), of("b", number(1)), of("a", number(1))},
		{of("a", number(1)), of("b c", number(1)), of("c", number(1))}, {of("a", number(1)), of("b", number(1)), of("-", number(1))},
		upTo(17), upTo(18),
	}
	for _, l := range wrong {
		if value.Vars(l) {
			t.Errorf("Vars(%+v): true", l)
		}
	}
	for _, v := range wrongValues {
		for at := range 3 {
			l := upTo(3)
			l[at].Val = v
			if value.Vars(l) {
				t.Errorf("Vars(%+v): true", l)
			}
		}
	}
}

// P11.3: the first value under a name, whatever the variables are.
func TestGet(t *testing.T) {
	l := []api.Var{
		of("c", number(3)), of("a", number(1)), of("b", text("x")), of("a", number(2)), of("", truth(1)), of("1 !", api.Value{Kind: 9, N: 9, S: "\xff"}), of("z", api.Value{}),
	}
	for name, want := range map[string]api.Value{"c": number(3), "a": number(1), "b": text("x"), "": truth(1), "1 !": {Kind: 9, N: 9, S: "\xff"}, "z": {}} {
		if v, ok := value.Get(l, name); !ok || v != want {
			t.Errorf("Get(%q): %+v, %v, want %+v", name, v, ok, want)
		}
	}
	for _, name := range []string{"d", "A", "aa", " a", "1", "a\x00", strings.Repeat("a", 1000)} {
		if v, ok := value.Get(l, name); ok || v != (api.Value{}) {
			t.Errorf("Get(%q): %+v, %v", name, v, ok)
		}
		if v, ok := value.Get(upTo(16), name); ok || v != (api.Value{}) {
			t.Errorf("Get(%q) of many: %+v, %v", name, v, ok)
		}
	}
	for _, none := range [][]api.Var{nil, {}} {
		for _, name := range []string{"", "a"} {
			if v, ok := value.Get(none, name); ok || v != (api.Value{}) {
				t.Errorf("Get(%q) of nothing: %+v, %v", name, v, ok)
			}
		}
	}
	for _, x := range upTo(300) {
		if v, ok := value.Get(upTo(300), x.Name); !ok || v != x.Val {
			t.Errorf("Get(%q) of too many: %+v, %v", x.Name, v, ok)
		}
	}
}

func wantWith(t *testing.T, l []api.Var, name string, v api.Value, want []api.Var) {
	t.Helper()
	if got := value.With(l, name, v); !slices.Equal(got, want) {
		t.Errorf("With(%+v, %q, %+v): %+v, want %+v", l, name, v, got, want)
	}
}

// P11.3: a value under a name that is there, and under one that is new.
func TestWith(t *testing.T) {
	a, c, e := of("a", number(1)), of("c", text("x")), of("e", truth(0))
	l := []api.Var{a, c, e}
	wantWith(t, []api.Var{a}, "b", truth(1), []api.Var{a, of("b", truth(1))})
	wantWith(t, nil, "b", truth(1), []api.Var{of("b", truth(1))})
	wantWith(t, []api.Var{}, "_", number(0), []api.Var{of("_", number(0))})
	wantWith(t, l, "a", text("y"), []api.Var{of("a", text("y")), c, e})
	wantWith(t, l, "c", number(-1), []api.Var{a, of("c", number(-1)), e})
	wantWith(t, l, "e", truth(1), []api.Var{a, c, of("e", truth(1))})
	wantWith(t, l, "e", truth(0), l)
	wantWith(t, l, "A", number(2), []api.Var{of("A", number(2)), a, c, e})
	wantWith(t, l, "_", number(2), []api.Var{of("_", number(2)), a, c, e})
	wantWith(t, l, "a-", number(2), []api.Var{a, of("a-", number(2)), c, e})
	wantWith(t, l, "b", number(2), []api.Var{a, of("b", number(2)), c, e})
	wantWith(t, l, "d", number(2), []api.Var{a, c, of("d", number(2)), e})
	wantWith(t, l, "ee", number(2), []api.Var{a, c, e, of("ee", number(2))})
	wantWith(t, l, strings.Repeat("z", 32), number(2), []api.Var{a, c, e, of(strings.Repeat("z", 32), number(2))})
}

// P11.3: variables stay as they are, if they may not be, or the name is none.
func TestWithOfWrong(t *testing.T) {
	l := upTo(3)
	for _, name := range []string{"", "1", "-a", "a b", "a.b", "\u00e9", strings.Repeat("a", 33)} {
		wantWith(t, l, name, number(9), l)
		wantWith(t, nil, name, number(9), nil)
		wantWith(t, []api.Var{of(name, number(1))}, name, number(9), []api.Var{of(name, number(1))})
	}
	wrong := [][]api.Var{
		{of("b", number(1)), of("a", number(2))}, {of("a", number(1)), of("a", number(2))}, {of("", number(1))}, {of("a", number(1)), of("1", number(2))},
		{of("a", number(2)), of("c", number(1)), of("b", number(2))}, upTo(17),
	}
	for _, v := range wrongValues {
		wrong = append(wrong, []api.Var{of("a", number(1)), of("b", v)})
	}
	for _, l := range wrong {
		for _, name := range []string{"a", "b", "vb", "z", "", "1"} {
			wantWith(t, l, name, number(9), l)
		}
	}
}

// P11.3: a variable too many may come of it, which is then left as it is; one
// that is there can have another value.
func TestWithOfMany(t *testing.T) {
	l := upTo(16)
	wantWith(t, upTo(15), "vp", number(15), l)
	for i, x := range l {
		want := upTo(16)
		want[i].Val = text("x")
		wantWith(t, l, x.Name, text("x"), want)
	}
	more := value.With(l, "a", number(7))
	if want := append([]api.Var{of("a", number(7))}, l...); !slices.Equal(more, want) || value.Vars(more) {
		t.Fatalf("with one more: %+v", more)
	}
	wantWith(t, more, "b", number(8), more)
	wantWith(t, more, "a", number(8), more)
}

// P11.3: of the value With asks nothing.
func TestWithOfWrongValues(t *testing.T) {
	for _, v := range wrongValues {
		wantWith(t, upTo(1), "b", v, []api.Var{of("b", v), of("va", number(0))})
		wantWith(t, upTo(1), "va", v, []api.Var{of("va", v)})
	}
}

// P11.4: variables that are those that are declared.
func TestFits(t *testing.T) {
	a, b, c := of("a", number(-7)), of("b", truth(1)), of("c", text("x"))
	da, db, dc := decl("a", api.Int), decl("b", api.Bool), decl("c", api.Text)
	right := []struct {
		l []api.Var
		d []api.Decl
	}{
		{nil, nil}, {[]api.Var{}, nil}, {nil, []api.Decl{}},
		{[]api.Var{a}, []api.Decl{da}}, {[]api.Var{a, b, c}, []api.Decl{da, db, dc}},
		{[]api.Var{c, a, b}, []api.Decl{dc, da, db}}, {[]api.Var{a, a}, []api.Decl{da, da}},
		{[]api.Var{of("", number(0)), of("1 !", text(""))}, []api.Decl{decl("", api.Int), decl("1 !", api.Text)}},
	}
	for _, x := range right {
		if !value.Fits(x.l, x.d) {
			t.Errorf("Fits(%+v, %+v): false", x.l, x.d)
		}
	}
	wrong := []struct {
		l []api.Var
		d []api.Decl
	}{
		{[]api.Var{a}, nil}, {nil, []api.Decl{da}}, {[]api.Var{a, b}, []api.Decl{da}}, {[]api.Var{a}, []api.Decl{da, db}}, {[]api.Var{a, b, c}, []api.Decl{da, dc}},
		{[]api.Var{a}, []api.Decl{db}}, {[]api.Var{a}, []api.Decl{decl("A", api.Int)}}, {[]api.Var{a}, []api.Decl{decl("", api.Int)}}, {[]api.Var{a}, []api.Decl{decl("aa", api.Int)}},
		{[]api.Var{a, b, c}, []api.Decl{da, dc, db}}, {[]api.Var{b, a}, []api.Decl{da, db}}, {[]api.Var{a, b}, []api.Decl{da, da}},
		{[]api.Var{a, b, c}, []api.Decl{da, db, decl("d", api.Text)}}, {[]api.Var{a, b, c}, []api.Decl{decl("_", api.Int), db, dc}},
	}
	for _, x := range wrong {
		if value.Fits(x.l, x.d) {
			t.Errorf("Fits(%+v, %+v): true", x.l, x.d)
		}
	}
}

// P11.4: kinds are those that are declared, and values may be; how many there
// are, is not asked.
func TestFitsOfKinds(t *testing.T) {
	for kind := -1; kind <= 5; kind++ {
		for other := -1; other <= 5; other++ {
			v := api.Value{Kind: other}
			want := kind == other && kind >= 1 && kind <= 3
			for at := range 3 {
				l, d := upTo(3), []api.Decl{decl("va", api.Int), decl("vb", api.Int), decl("vc", api.Int)}
				l[at].Val, d[at].Kind = v, kind
				if value.Fits(l, d) != want {
					t.Errorf("a %d where a %d is declared: %v", other, kind, !want)
				}
			}
		}
	}
	for _, v := range wrongValues {
		if value.Fits([]api.Var{of("a", v)}, []api.Decl{decl("a", v.Kind)}) {
			t.Errorf("Fits of %+v: true", v)
		}
	}
	var d []api.Decl
	for _, x := range upTo(40) {
		d = append(d, decl(x.Name, api.Int))
	}
	if !value.Fits(upTo(40), d) || value.Fits(upTo(39), d) || value.Fits(upTo(40), d[:39]) {
		t.Error("Fits of many")
	}
}

// P11.5: neither With nor another call changes what is handed in, its spare
// room neither, and what With answers is of its own.
func TestHandedInStays(t *testing.T) {
	for _, name := range []string{"a", "va", "vb", "vc", "z", "", "1"} {
		for _, spoilt := range []bool{false, true} {
			room := upTo(8)
			if spoilt {
				room[0], room[1] = room[1], room[0]
			}
			before := slices.Clone(room)
			l := room[:3]
			got := value.With(l, name, text("new"))
			again := slices.Clone(got)
			value.Vars(l)
			value.Get(l, name)
			value.Fits(l, []api.Decl{decl("va", api.Int), decl("vb", api.Int), decl("vc", api.Int)})
			if !slices.Equal(room, before) {
				t.Fatalf("With(%q) changed %+v to %+v", name, before, room)
			}
			for i := range room {
				room[i] = of("gone", number(99))
			}
			if !slices.Equal(got, again) {
				t.Fatalf("With(%q) shares what was handed in: %+v", name, got)
			}
			for i := range got {
				got[i] = of("mine", number(98))
			}
			_ = append(got, of("mine", number(97)))
			for _, x := range room {
				if x != of("gone", number(99)) {
					t.Fatalf("With(%q) shares what it answers: %+v", name, room)
				}
			}
		}
	}
}

// P11.5: two answers share nothing.
func TestAnswersAreNew(t *testing.T) {
	l := upTo(3)
	for _, name := range []string{"va", "b", ""} {
		x, y := value.With(l, name, truth(1)), value.With(l, name, truth(1))
		z := slices.Clone(y)
		for i := range x {
			x[i] = api.Var{}
		}
		_ = append(x, of("mine", number(1)))
		if !slices.Equal(y, z) {
			t.Errorf("With(%q): %+v, want %+v", name, y, z)
		}
	}
}

// The chapter's examples.
func TestExamples(t *testing.T) {
	if s := value.Print(number(-5)); s != "-5" {
		t.Error(s)
	}
	if s := value.Print(text(`a"b`)); s != `"a\"b"` {
		t.Error(s)
	}
	for _, s := range []string{"05", "+5", `"a`, "True"} {
		if v, ok := value.Parse(s); ok || v != (api.Value{}) {
			t.Errorf("%s: %+v", s, v)
		}
	}
	wantWith(t, []api.Var{of("a", number(1))}, "b", truth(1), []api.Var{of("a", number(1)), of("b", truth(1))})
}
