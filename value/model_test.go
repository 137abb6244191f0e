package value_test

import (
	"maps"
	"math/big"
	"regexp"
	"slices"
	"sort"
	"strconv"
	"strings"
	"testing"
	"unicode/utf8"

	"pavane/api"
	"pavane/value"
)

// next is a small generator of numbers, the same in each run.
func next(x *uint64) uint32 {
	*x = *x*6364136223846793005 + 1442695040888963407
	return uint32(*x >> 32)
}

func pick[T any](x *uint64, some []T) T {
	return some[next(x)%uint32(len(some))]
}

// The model says the chapter's words by forms that whole texts have, and by
// maps of names.

var (
	nameForm       = regexp.MustCompile(`^[A-Za-z_][A-Za-z0-9_-]{0,31}$`)
	numberForm     = regexp.MustCompile(`^(?:0|-?[1-9][0-9]*)$`)
	textForm       = regexp.MustCompile(`^"(?:[^"\\]|\\["\\])*"$`)
	charactersForm = regexp.MustCompile(`^[\t\n\r\x{20}-\x{d7ff}\x{e000}-\x{fffd}\x{10000}-\x{10ffff}]*$`)
	pairForm       = regexp.MustCompile(`\\(.)`)
)

func modelMay(v api.Value) bool {
	inText := utf8.ValidString(v.S) && charactersForm.MatchString(v.S) && len(v.S) < 65
	may := map[int]bool{api.Int: v.S == "", api.Bool: v.S == "" && uint64(v.N) < 2, api.Text: v.N == 0 && inText}
	return may[v.Kind]
}

func modelParse(s string) (api.Value, bool) {
	if numberForm.MatchString(s) {
		n, _ := new(big.Int).SetString(s, 10)
		if !n.IsInt64() {
			return api.Value{}, false
		}
		return number(n.Int64()), true
	}
	if textForm.MatchString(s) {
		if v := text(pairForm.ReplaceAllString(s[1:len(s)-1], "$1")); modelMay(v) {
			return v, true
		}
	}
	v, ok := map[string]api.Value{"true": truth(1), "false": truth(0)}[s]
	return v, ok
}

func modelPrint(v api.Value) string {
	if !modelMay(v) {
		return ""
	}
	switch v.Kind {
	case api.Int:
		return big.NewInt(v.N).String()
	case api.Bool:
		return strconv.FormatBool(v.N > 0)
	}
	return `"` + strings.ReplaceAll(strings.ReplaceAll(v.S, `\`, `\\`), `"`, `\"`) + `"`
}

func modelVars(l []api.Var) bool {
	under := map[string]bool{}
	for _, x := range l {
		if !nameForm.MatchString(x.Name) || !modelMay(x.Val) {
			return false
		}
		under[x.Name] = true
	}
	rising := sort.SliceIsSorted(l, func(i, j int) bool { return l[i].Name < l[j].Name })
	return rising && len(under) == len(l) && len(l) < 17
}

func modelGet(l []api.Var, name string) (api.Value, bool) {
	first := map[string]api.Value{}
	for _, x := range slices.Backward(l) {
		first[x.Name] = x.Val
	}
	v, ok := first[name]
	return v, ok
}

func modelWith(l []api.Var, name string, v api.Value) []api.Var {
	if !modelVars(l) || !nameForm.MatchString(name) {
		return l
	}
	under := map[string]api.Value{}
	for _, x := range l {
		under[x.Name] = x.Val
	}
	under[name] = v
	var all []api.Var
	for _, name := range slices.Sorted(maps.Keys(under)) {
		all = append(all, of(name, under[name]))
	}
	return all
}

func modelFits(l []api.Var, d []api.Decl) bool {
	var own []api.Decl
	for _, x := range l {
		if !modelMay(x.Val) {
			return false
		}
		own = append(own, decl(x.Name, x.Val.Kind))
	}
	return slices.Equal(own, d)
}

// holdText holds all that can be asked of one text against the model.
func holdText(t *testing.T, s string) bool {
	t.Helper()
	if value.Name(s) != nameForm.MatchString(s) {
		t.Fatalf("Name(%q): %v", s, value.Name(s))
	}
	v, ok := value.Parse(s)
	if want, wantOk := modelParse(s); v != want || ok != wantOk {
		t.Fatalf("Parse(%q): %+v, %v, want %+v, %v", s, v, ok, want, wantOk)
	}
	if ok && value.Print(v) != s {
		t.Fatalf("Print(%+v): %q, want %q", v, value.Print(v), s)
	}
	holdValue(t, text(s))
	return ok
}

// holdValue holds all that can be asked of one value against the model.
func holdValue(t *testing.T, v api.Value) {
	t.Helper()
	may, s := value.May(v), value.Print(v)
	if may != modelMay(v) || s != modelPrint(v) || may != (s != "") {
		t.Fatalf("%+v: May %v, Print %q, want %v, %q", v, may, s, modelMay(v), modelPrint(v))
	}
	if again, ok := value.Parse(s); ok != may || ok && again != v {
		t.Fatalf("Parse(Print(%+v)): %+v, %v", v, again, ok)
	}
}

// holdVars holds all that can be asked of variables against the model.
func holdVars(t *testing.T, l []api.Var, d []api.Decl, name string, v api.Value) bool {
	t.Helper()
	before := slices.Clone(l)
	if value.Vars(l) != modelVars(before) {
		t.Fatalf("Vars(%+v): %v", before, !modelVars(before))
	}
	got, ok := value.Get(l, name)
	if want, wantOk := modelGet(before, name); got != want || ok != wantOk {
		t.Fatalf("Get(%+v, %q): %+v, %v, want %+v, %v", before, name, got, ok, want, wantOk)
	}
	if value.Fits(l, d) != modelFits(before, d) {
		t.Fatalf("Fits(%+v, %+v): %v", before, d, !modelFits(before, d))
	}
	changed := value.With(l, name, v)
	if want := modelWith(before, name, v); !slices.Equal(changed, want) {
		t.Fatalf("With(%+v, %q, %+v): %+v, want %+v", before, name, v, changed, want)
	}
	if !slices.Equal(l, before) {
		t.Fatalf("%+v was changed: %+v", before, l)
	}
	return value.Vars(changed)
}

// P11.2: all texts of up to six of some bytes, with and without quotes.
func TestModelShortTexts(t *testing.T) {
	right := 0
	var grow func(s string, n int)
	grow = func(s string, n int) {
		if holdText(t, s) {
			right++
		}
		if n == 0 {
			return
		}
		for _, more := range []string{`"`, `\`, "a", "0", "1", "-", "+", "\x00"} {
			grow(s+more, n-1)
		}
	}
	grow("", 6)
	grow(`"\`, 4)
	if right < 1000 {
		t.Errorf("%d texts alone were right", right)
	}
}

// P11.2: numbers around each power of two and of ten, with and without signs,
// and with noughts ahead.
func TestModelNumbers(t *testing.T) {
	for _, base := range []int64{2, 10} {
		power := big.NewInt(1)
		for range 70 {
			for by := int64(-2); by <= 2; by++ {
				n := new(big.Int).Add(power, big.NewInt(by))
				for _, ahead := range []string{"", "-", "+", "0", "-0", " ", "--"} {
					holdText(t, ahead+n.String())
				}
				holdValue(t, number(n.Int64()))
				holdValue(t, number(-n.Int64()))
				holdValue(t, truth(n.Int64()))
			}
			power.Mul(power, big.NewInt(base))
		}
	}
}

// someText answers a text of up to some 70 bytes, by chance.
func someText(x *uint64) string {
	pieces := []string{"a", "b", `"`, `\`, `\"`, `\\`, "\t", "\u00e9", "\u20ac", "\U0001f600"}
	if next(x)%4 == 0 {
		pieces = append(pieces, "\x00", "\xff", "\ufffe", "\xc3", "\x1f")
	}
	var b strings.Builder
	for range next(x) % 40 {
		b.WriteString(pick(x, pieces))
	}
	return b.String()
}

// P11.1, P11.2: texts by chance, bare and between quotes.
func TestModelTexts(t *testing.T) {
	x := uint64(11)
	right := 0
	for range 40000 {
		s := someText(&x)
		holdText(t, s)
		if holdText(t, `"`+s+`"`) {
			right++
		}
		holdText(t, modelPrint(text(s)))
	}
	if right < 1000 {
		t.Errorf("%d texts alone were right", right)
	}
}

// P11.1: values of all kinds, numbers and texts that are at edges.
func TestModelValues(t *testing.T) {
	numbers := []int64{0, 1, -1, 2, 3, -2, 1 << 32, 1<<32 + 1, 1<<63 - 1, -1 << 63}
	for kind := -2; kind <= 6; kind++ {
		for _, n := range numbers {
			for length := range 70 {
				holdValue(t, api.Value{Kind: kind, N: n, S: strings.Repeat("a", length)})
				holdValue(t, api.Value{Kind: kind, N: n, S: strings.Repeat("\u00e9", length/2) + strings.Repeat(`"`, length%2)})
			}
			holdValue(t, api.Value{Kind: kind, N: n, S: "\x00"})
			holdValue(t, api.Value{Kind: kind, N: n, S: "\xff"})
		}
	}
}

// someVars answers variables that may be, and now and then ones that may not.
func someVars(x *uint64, names []string, values []api.Value) []api.Var {
	under := map[string]api.Value{}
	for range next(x) % 20 {
		under[pick(x, names)] = pick(x, values)
	}
	var l []api.Var
	for _, name := range slices.Sorted(maps.Keys(under)) {
		l = append(l, of(name, under[name]))
	}
	if len(l) > 1 && next(x)%4 == 0 {
		i, j := next(x)%uint32(len(l)), next(x)%uint32(len(l))
		switch next(x) % 5 {
		case 0:
			l[i], l[j] = l[j], l[i]
		case 1:
			l[i].Name = l[j].Name
		case 2:
			l[i].Name = pick(x, []string{"", "1", "a b", "-"})
		case 3:
			l[i].Val = pick(x, wrongValues)
		case 4:
			l = append(l[:i], l[i+1:]...)
		}
	}
	return l
}

// someDecls answers what l has as declarations, now and then with a fault.
func someDecls(x *uint64, l []api.Var) []api.Decl {
	var d []api.Decl
	for _, v := range l {
		d = append(d, decl(v.Name, v.Val.Kind))
	}
	if len(d) > 1 && next(x)%2 == 0 {
		i, j := next(x)%uint32(len(d)), next(x)%uint32(len(d))
		switch next(x) % 4 {
		case 0:
			d[i], d[j] = d[j], d[i]
		case 1:
			d[i].Kind = int(next(x)%6) - 1
		case 2:
			d[i].Name += "x"
		case 3:
			d = append(d[:i], d[i+1:]...)
		}
	}
	return d
}

// P11.1, P11.3, P11.4: variables by chance.
func TestModelVars(t *testing.T) {
	x := uint64(113)
	names := []string{"A", "B", "Z", "_", "__", "a", "a-", "a-b", "a0", "a1", "a10", "a9", "aA", "aZ", "a_", "aa", "ab", "b", "z", strings.Repeat("a", 32)}
	values := []api.Value{number(0), number(-5), number(1 << 62), truth(0), truth(1), text(""), text("a"), text(`"`), text(strings.Repeat("z", 64))}
	others := append([]string{"", "1", "-", "a.", strings.Repeat("a", 33)}, names...)
	right, fit := 0, 0
	for range 60000 {
		l := someVars(&x, names, values)
		d := someDecls(&x, l)
		if holdVars(t, l, d, pick(&x, others), pick(&x, values)) {
			right++
		}
		if value.Fits(l, d) {
			fit++
		}
	}
	if right < 10000 || fit < 10000 || right > 59000 || fit > 59000 {
		t.Errorf("%d may be, %d fit", right, fit)
	}
}

// P11.3: variables that grow one by one, in every order of five names.
func TestModelGrowing(t *testing.T) {
	names := []string{"A", "a", "a-", "aa", "b"}
	var grow func(l []api.Var, left []string)
	grow = func(l []api.Var, left []string) {
		for i, name := range left {
			v := number(int64(len(left)))
			holdVars(t, l, nil, name, v)
			rest := slices.Delete(slices.Clone(left), i, i+1)
			grow(value.With(l, name, v), rest)
		}
		if len(left) == 0 && (len(l) != len(names) || !value.Vars(l)) {
			t.Fatalf("grown: %+v", l)
		}
	}
	grow(nil, names)
}

// P1, P11.1, P11.2: whatever the text.
func FuzzText(f *testing.F) {
	for _, x := range texts {
		f.Add(x.s)
		f.Add(x.v.S)
	}
	for _, s := range []string{"05", "+5", `"a`, "True", "a-1", "-a", "\"\xff\"", "9223372036854775808"} {
		f.Add(s)
	}
	f.Fuzz(func(t *testing.T, s string) { holdText(t, s) })
}

// P1, P11.1, P11.3, P11.4: whatever the variables: lines of a name, a kind, a
// number and a text; the last one is what is put among the others.
func FuzzVars(f *testing.F) {
	f.Add("a 1 5 \nb 2 1 \nc 3 0 x", "a1b2c3")
	f.Add("b 1 5 \na 2 1 ", "b1")
	f.Add("a 4 5 \na 3 0 \"", "a4")
	f.Add("\n", "1")
	f.Fuzz(func(t *testing.T, s, declared string) {
		var l []api.Var
		for line := range strings.SplitSeq(s, "\n") {
			words := append(strings.SplitN(line, " ", 4), "", "", "")
			kind, _ := strconv.Atoi(words[1])
			n, _ := strconv.ParseInt(words[2], 10, 64)
			l = append(l, of(words[0], api.Value{Kind: kind, N: n, S: words[3]}))
		}
		var d []api.Decl
		for i := 0; i+1 < len(declared); i += 2 {
			d = append(d, decl(declared[i:i+1], int(declared[i+1])-'0'))
		}
		last := l[len(l)-1]
		holdVars(t, l[:len(l)-1], d, last.Name, last.Val)
		holdValue(t, last.Val)
	})
}
