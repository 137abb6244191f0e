package lexer_test

import (
	"math/big"
	"regexp"
	"slices"
	"strings"
	"testing"
	"unicode/utf8"

	"pavane/api"
	"pavane/lexer"
)

// next is a small generator of numbers, the same in each run.
func next(x *uint64) uint32 {
	*x = *x*6364136223846793005 + 1442695040888963407
	return uint32(*x >> 32)
}

func pick[T any](x *uint64, some []T) T {
	return some[next(x)%uint32(len(some))]
}

// The model says the chapter's words by forms that beginnings of texts have,
// each cut off in its turn.

var (
	blankForm  = regexp.MustCompile(`^[\x20\x09\x0a\x0d]+`)
	numberForm = regexp.MustCompile(`^[0-9]+`)
	wordForm   = regexp.MustCompile(`^[A-Za-z_][A-Za-z0-9_]*`)
	signForm   = regexp.MustCompile(`^(?:[=!<>]=|&&|\|\||[-+*/%()?:!<>])`)
	insideForm = regexp.MustCompile(`^"(?:[\t\n\r\x20\x21\x23-\x5b\x5d-\x{d7ff}\x{e000}-\x{fffd}\x{10000}-\x{10ffff}]|\\["\\])*`)
	pairForm   = regexp.MustCompile(`(?s)\\(.)`)
	noughts    = regexp.MustCompile(`^0[0-9]`)
)

// modelCut answers how many bytes the token at the beginning of s has, with
// its kind and meaning; or the place of a fault and which one it is.
func modelCut(s string) (api.Tok, int, api.Errno) {
	if digits := numberForm.FindString(s); digits != "" {
		n, _ := new(big.Int).SetString(digits, 10)
		if noughts.MatchString(digits) || !n.IsInt64() {
			return api.Tok{}, 0, api.ErrNumber
		}
		return number(0, n.Int64()), len(digits), api.OK
	}
	if letters := wordForm.FindString(s); letters != "" {
		return word(0, letters), len(letters), api.OK
	}
	if x := signForm.FindString(s); x != "" {
		return sign(0, x), len(x), api.OK
	}
	if s[0] == '"' {
		return modelText(s)
	}
	return api.Tok{}, 0, api.ErrSign
}

func modelText(s string) (api.Tok, int, api.Errno) {
	inside := insideForm.FindString(s)
	rest := s[len(inside):]
	means := pairForm.ReplaceAllString(inside[1:], "$1")
	switch {
	case rest == "" || rest == `\`:
		return api.Tok{}, 0, api.ErrUnended
	case rest[0] == '\\':
		return api.Tok{}, len(inside), api.ErrSign
	case rest[0] != '"':
		return api.Tok{}, len(inside), api.ErrChar
	case len(means) >= 65:
		return api.Tok{}, 0, api.ErrLong
	}
	return text(0, means), len(inside) + 1, api.OK
}

func modelTokens(s string) ([]api.Tok, int, api.Errno) {
	if len(s) >= 257 {
		return nil, 0, api.ErrLong
	}
	if !utf8.ValidString(s) {
		right := 0
		for r, n := utf8.DecodeRuneInString(s); r != utf8.RuneError || n != 1; r, n = utf8.DecodeRuneInString(s[right:]) {
			right += n
		}
		return nil, right, api.ErrUtf
	}
	var l []api.Tok
	for at := 0; at < len(s); {
		if blanks := blankForm.FindString(s[at:]); blanks != "" {
			at += len(blanks)
			continue
		}
		tok, n, e := modelCut(s[at:])
		if e != api.OK {
			return nil, at + n, e
		}
		tok.At = at
		l = append(l, tok)
		at += n
	}
	return l, 0, api.OK
}

// hold holds the answer for s against the model, and answers its error.
func hold(t *testing.T, s string) api.Errno {
	t.Helper()
	got, at, e := lexer.Tokens(s)
	want, wantAt, wantE := modelTokens(s)
	if at != wantAt || e != wantE || !slices.Equal(got, want) {
		t.Fatalf("Tokens(%q): %+v, %d, %d, want %+v, %d, %d", s, got, at, e, want, wantAt, wantE)
	}
	return e
}

// P12.1: all texts of up to five of some bytes.
func TestModelShort(t *testing.T) {
	seen := map[api.Errno]int{}
	var grow func(s string, n int)
	grow = func(s string, n int) {
		seen[hold(t, s)]++
		if n == 0 {
			return
		}
		for _, more := range []string{`"`, `\`, "a", "0", "1", "=", "!", "<", "&", " ", "\n", "\x01", "\xc3", "\xa9"} {
			grow(s+more, n-1)
		}
	}
	grow("", 5)
	for _, e := range []api.Errno{api.OK, api.ErrUtf, api.ErrChar, api.ErrUnended, api.ErrSign, api.ErrNumber} {
		if seen[e] < 100 {
			t.Errorf("%d texts alone gave %d", seen[e], e)
		}
	}
}

// P12.1: longer texts of pieces of all sorts.
func TestModelMixed(t *testing.T) {
	pieces := []string{
		" ", "\t", "\r\n", "a", "_", "len", "true", "x1", "0", "7", "10", "9223372036854775807", "9223372036854775808", "07",
		"+", "-", "*", "/", "%", "(", ")", "?", ":", "!", "<", ">", "==", "!=", "<=", ">=", "&&", "||", "=", "&", "|",
		`"`, `""`, `"a"`, "\"\x01", `"\""`, `"\\"`, `\`, `\"`, `\n`, strings.Repeat("k", 32), `"` + strings.Repeat("k", 64) + `"`, `"` + strings.Repeat("k", 65) + `"`,
		"#", "'", "\x00", "\x7f", "\u00e9", "\ufffe", "\ufffd", "\U0001f600", "\xff", "\xed\xa0\x80",
	}
	seed := uint64(2)
	seen := map[api.Errno]int{}
	for range 100000 {
		// What may stand anywhere comes first, so that not all are wrong.
		some := pieces[:6+next(&seed)%uint32(len(pieces)-5)]
		var b strings.Builder
		for range next(&seed) % 16 {
			b.WriteString(pick(&seed, some))
		}
		seen[hold(t, b.String())]++
	}
	for _, e := range []api.Errno{api.OK, api.ErrLong, api.ErrUtf, api.ErrChar, api.ErrUnended, api.ErrSign, api.ErrNumber} {
		if seen[e] < 100 {
			t.Errorf("%d texts alone gave %d", seen[e], e)
		}
	}
}

// P1 and P12.1: whatever the text.
func FuzzTokens(f *testing.F) {
	for _, s := range []string{"", "a<=10", `"x\"y"`, "07", "a & b", `"\`, "\"\x01", "a\xc3", "9223372036854775808", `len("a") + 1 >= n && !(b || c) ? "\\" : "d"`, `"` + strings.Repeat("x", 65) + `"`} {
		f.Add(s)
	}
	f.Fuzz(func(t *testing.T, s string) { hold(t, s) })
}
