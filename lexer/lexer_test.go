package lexer_test

import (
	"math"
	"slices"
	"strings"
	"testing"
	"unsafe"

	"pavane/api"
	"pavane/lexer"
	"pavane/utf"
)

func number(at int, n int64) api.Tok { return api.Tok{Kind: api.TokNumber, N: n, At: at} }

func text(at int, s string) api.Tok { return api.Tok{Kind: api.TokText, Text: s, At: at} }

func word(at int, s string) api.Tok { return api.Tok{Kind: api.TokName, Text: s, At: at} }

func sign(at int, s string) api.Tok { return api.Tok{Kind: api.TokSign, Text: s, At: at} }

// signs are all of them.
var signs = []string{
	"+", "-", "*", "/", "%", "(", ")", "?", ":", "!", "<", ">",
	"==", "!=", "<=", ">=", "&&", "||",
}

func wantTokens(t *testing.T, s string, want ...api.Tok) {
	t.Helper()
	got, at, e := lexer.Tokens(s)
	if e != api.OK || at != 0 || !slices.Equal(got, want) {
		t.Errorf("Tokens(%.80q): %+v, %d, %d, want %+v", s, got, at, e, want)
	}
}

func wantFault(t *testing.T, s string, at int, e api.Errno) {
	t.Helper()
	l, gotAt, gotE := lexer.Tokens(s)
	if gotE != e || gotAt != at || len(l) != 0 {
		t.Errorf("Tokens(%.80q): %d tokens, %d, %d, want %d, %d", s, len(l), gotAt, gotE, at, e)
	}
}

// The chapter's examples.
func TestExamples(t *testing.T) {
	wantTokens(t, "a<=10", word(0, "a"), sign(1, "<="), number(3, 10))
	wantTokens(t, `"x\"y"`, text(0, `x"y`))
	wantFault(t, "07", 0, api.ErrNumber)
	wantFault(t, "a & b", 2, api.ErrSign)
}

// P12.1: nothing, and one of each.
func TestOneOfEach(t *testing.T) {
	wantTokens(t, "")
	wantTokens(t, " \t\n\r")
	wantTokens(t, "0", number(0, 0))
	wantTokens(t, "a", word(0, "a"))
	wantTokens(t, `""`, text(0, ""))
	for _, x := range signs {
		wantTokens(t, x, sign(0, x))
	}
	wantTokens(t, ` len("a")*2 >= n % 3 ? !x : false `,
		word(1, "len"), sign(4, "("), text(5, "a"), sign(8, ")"), sign(9, "*"), number(10, 2), sign(12, ">="), word(15, "n"),
		sign(17, "%"), number(19, 3), sign(21, "?"), sign(23, "!"), word(24, "x"), sign(26, ":"), word(28, "false"))
}

// P12.1: the errors of all of s, each ahead of the next one and of all others.
func TestWholeFormula(t *testing.T) {
	wantTokens(t, strings.Repeat(" ", 256))
	wantTokens(t, strings.Repeat("a", 256), word(0, strings.Repeat("a", 256)))
	wantTokens(t, strings.Repeat(" ", 255)+"+", sign(255, "+"))
	wantFault(t, strings.Repeat(" ", 257), 0, api.ErrLong)
	wantFault(t, strings.Repeat("a", 257), 0, api.ErrLong)
	wantFault(t, "#"+strings.Repeat("\xff", 256), 0, api.ErrLong)
	wantFault(t, strings.Repeat(" ", 1<<20), 0, api.ErrLong)
	wantFault(t, strings.Repeat("\u00e9", 128)+" ", 0, api.ErrLong)
	wantFault(t, strings.Repeat("\u00e9", 128), 0, api.ErrSign)

	for _, bad := range []string{"\xff", "\x80", "\xc3", "\xc3a", "\xc0\x80", "\xed\xa0\x80", "\xf4\x90\x80\x80", "\xe2\x82"} {
		wantFault(t, bad, 0, api.ErrUtf)
		wantFault(t, "a"+bad, 1, api.ErrUtf)
		wantFault(t, `"`+bad+`"`, 1, api.ErrUtf)
		wantFault(t, "# 07 \u00e9"+bad, 7, api.ErrUtf)
		wantFault(t, strings.Repeat(" ", 256-len(bad))+bad, 256-len(bad), api.ErrUtf)
	}
	wantFault(t, "\xff\xfe", 0, api.ErrUtf)
}

// P12.1: numbers, from 0 to the greatest one.
func TestNumbers(t *testing.T) {
	wantTokens(t, "10", number(0, 10))
	wantTokens(t, "1234567890", number(0, 1234567890))
	wantTokens(t, "9223372036854775807", number(0, math.MaxInt64))
	wantTokens(t, "9223372036854775799", number(0, math.MaxInt64-8))
	wantTokens(t, "-9223372036854775807", sign(0, "-"), number(1, math.MaxInt64))
	wantTokens(t, "+5", sign(0, "+"), number(1, 5))
	wantTokens(t, "0 0", number(0, 0), number(2, 0))
	wantTokens(t, "0-0", number(0, 0), sign(1, "-"), number(2, 0))
	wantTokens(t, "a0 0", word(0, "a0"), number(3, 0))

	wantFault(t, "00", 0, api.ErrNumber)
	wantFault(t, "01", 0, api.ErrNumber)
	wantFault(t, " 0000009 #", 1, api.ErrNumber)
	wantFault(t, "a+07", 2, api.ErrNumber)
	wantFault(t, "1 2 03", 4, api.ErrNumber)
	wantFault(t, "9223372036854775808", 0, api.ErrNumber)
	wantFault(t, "-9223372036854775808", 1, api.ErrNumber)
	wantFault(t, "18446744073709551615", 0, api.ErrNumber)
	wantFault(t, "18446744073709551616", 0, api.ErrNumber)
	wantFault(t, "18446744073709551621", 0, api.ErrNumber)
	wantFault(t, "1"+strings.Repeat("0", 64), 0, api.ErrNumber)
	wantFault(t, strings.Repeat("9", 256), 0, api.ErrNumber)
	wantFault(t, "0"+strings.Repeat("1", 255), 0, api.ErrNumber)
}

// P12.1: a number ends where there are no more digits, whatever comes then.
func TestBehindNumbers(t *testing.T) {
	wantTokens(t, "1a", number(0, 1), word(1, "a"))
	wantTokens(t, "0x1f", number(0, 0), word(1, "x1f"))
	wantTokens(t, "1_000", number(0, 1), word(1, "_000"))
	wantTokens(t, "1e5", number(0, 1), word(1, "e5"))
	wantTokens(t, `1"2"3`, number(0, 1), text(1, "2"), number(4, 3))
	wantFault(t, "1.5", 1, api.ErrSign)
	wantFault(t, "1,5", 1, api.ErrSign)
	wantFault(t, "1\u0661", 1, api.ErrSign)
	wantFault(t, "\uff11", 0, api.ErrSign)
}

// P12.1: words are as long as there are letters and digits.
func TestWords(t *testing.T) {
	for _, s := range []string{"a", "z", "A", "Z", "_", "__", "_1", "a1b2", "x0", "true", "false", "len", "Len", "aB_9", strings.Repeat("k", 33), "_" + strings.Repeat("0", 255)} {
		wantTokens(t, s, word(0, s))
	}
	wantTokens(t, "a b", word(0, "a"), word(2, "b"))
	wantTokens(t, "a-b", word(0, "a"), sign(1, "-"), word(2, "b"))
	wantTokens(t, `a"b"c`, word(0, "a"), text(1, "b"), word(4, "c"))
	wantFault(t, "a.b", 1, api.ErrSign)
	wantFault(t, "a\u00e9", 1, api.ErrSign)
	wantFault(t, "\u00e9a", 0, api.ErrSign)
	wantFault(t, "ab\u0430", 2, api.ErrSign)
}

// P12.1: of two signs that begin at a place the longer one.
func TestSigns(t *testing.T) {
	for _, x := range signs {
		for _, y := range signs {
			wantTokens(t, x+" "+y, sign(0, x), sign(len(x)+1, y))
			if longer := x + y[:1]; !slices.Contains(signs, longer) {
				wantTokens(t, x+y, sign(0, x), sign(len(x), y))
			}
		}
	}
	wantTokens(t, "!!=", sign(0, "!"), sign(1, "!="))
	wantTokens(t, "!===", sign(0, "!="), sign(2, "=="))
	wantTokens(t, "<===", sign(0, "<="), sign(2, "=="))
	wantTokens(t, "a!=b", word(0, "a"), sign(1, "!="), word(3, "b"))
	wantTokens(t, "a! == b", word(0, "a"), sign(1, "!"), sign(3, "=="), word(6, "b"))
	wantTokens(t, "<>", sign(0, "<"), sign(1, ">"))
	wantFault(t, "!==", 2, api.ErrSign)
	wantFault(t, "<==", 2, api.ErrSign)
	wantFault(t, ">==", 2, api.ErrSign)
	wantFault(t, "===", 2, api.ErrSign)
	wantFault(t, "&&&", 2, api.ErrSign)
	wantFault(t, "|||", 2, api.ErrSign)
	wantFault(t, "< =", 2, api.ErrSign)
	wantFault(t, "& &", 0, api.ErrSign)
	wantFault(t, "=<", 0, api.ErrSign)
	wantFault(t, "=>", 0, api.ErrSign)
	wantFault(t, "=!", 0, api.ErrSign)
	wantFault(t, "&|", 0, api.ErrSign)
}

// P12.1: bytes that begin no token, wherever they stand.
func TestNoTokens(t *testing.T) {
	const begin = "\"+-*/%()?:!<>0123456789ABCDEFGHIJKLMNOPQRSTUVWXYZabcdefghijklmnopqrstuvwxyz_ \t\n\r"
	for r := int32(0); r <= 0x10ffff; r++ {
		s := utf.Put(r)
		if s == "" || strings.Contains(begin, s) {
			continue
		}
		wantFault(t, s, 0, api.ErrSign)
		wantFault(t, "a + "+s+" 07", 4, api.ErrSign)
		if t.Failed() {
			return
		}
	}
	for _, s := range []string{"=", "&", "|", "#", "$", "'", ",", ".", ";", "@", "[", "\\", "]", "^", "`", "{", "}", "~", "\x00", "\x0b", "\x0c", "\x7f", "\u00a0", "\u00e9", "\u2028", "\ufeff", "\uffff"} {
		wantFault(t, s, 0, api.ErrSign)
		wantFault(t, "a"+s, 1, api.ErrSign)
		wantFault(t, "10 "+s, 3, api.ErrSign)
		wantFault(t, `"a"`+s+`"`, 3, api.ErrSign)
		wantFault(t, "("+s+")", 1, api.ErrSign)
		wantFault(t, strings.Repeat("+", 256-len(s))+s, 256-len(s), api.ErrSign)
	}
}

// P12.1: blanks are four bytes, and no others.
func TestBlanks(t *testing.T) {
	for c := range 128 {
		s := string(rune(c))
		if strings.Contains(" \t\n\r", s) {
			wantTokens(t, s)
			wantTokens(t, s+"a"+s+s+"b"+s, word(1, "a"), word(4, "b"))
		} else if l, _, e := lexer.Tokens("a" + s + "b"); e == api.OK && len(l) == 2 && l[1] == word(2, "b") {
			t.Errorf("%q is passed over", s)
		}
	}
}

// P12.1: what texts mean.
func TestTexts(t *testing.T) {
	wantTokens(t, `"a"`, text(0, "a"))
	wantTokens(t, `"\\"`, text(0, `\`))
	wantTokens(t, `"\\\\"`, text(0, `\\`))
	wantTokens(t, `"\""`, text(0, `"`))
	wantTokens(t, `"\"\""`, text(0, `""`))
	wantTokens(t, `"\\\""`, text(0, `\"`))
	wantTokens(t, `"\"\\"`, text(0, `"\`))
	wantTokens(t, `"\\" "n"`, text(0, `\`), text(5, "n"))
	wantTokens(t, `"\\n"`, text(0, `\n`))
	wantTokens(t, `""""`, text(0, ""), text(2, ""))
	wantTokens(t, `"a""b"`, text(0, "a"), text(3, "b"))
	wantTokens(t, `" a  b "`, text(0, " a  b "))
	wantTokens(t, "\"\t\n\r\"", text(0, "\t\n\r"))
	wantTokens(t, `"true"`, text(0, "true"))
	wantTokens(t, `"07"`, text(0, "07"))
	wantTokens(t, `"a & b # '"`, text(0, "a & b # '"))
	wantTokens(t, "\"\x7f\u0080\u00e9\u20ac\ufeff\ufffd\U0001f600\U0010ffff\"", text(0, "\x7f\u0080\u00e9\u20ac\ufeff\ufffd\U0001f600\U0010ffff"))
	wantTokens(t, "\"\u00e9\"+1", text(0, "\u00e9"), sign(4, "+"), number(5, 1))
}

// P12.1: each rune between quotes, and behind a \ there.
func TestTextOfAllRunes(t *testing.T) {
	for r := int32(0); r <= 0x10ffff; r++ {
		s := utf.Put(r)
		if s == "" || r == '"' || r == '\\' {
			continue
		}
		if utf.Char(r) {
			wantTokens(t, ` "a`+s+`"`, text(1, "a"+s))
		} else {
			wantFault(t, ` "a`+s+`"`, 3, api.ErrChar)
			wantFault(t, ` "a`+s, 3, api.ErrChar)
		}
		wantFault(t, ` "a\`+s+`"`, 3, api.ErrSign)
		if t.Failed() {
			return
		}
	}
}

// P12.1: texts without an end.
func TestUnended(t *testing.T) {
	for _, s := range []string{`"`, `"a`, `"\"`, `"\\\"`, `"\`, `"\\`, `"a\`, `"\\\`, `"\"\`, `"a 07 # b`, "\"\u00e9", "\"\n", `"` + strings.Repeat("a", 65), `"` + strings.Repeat("a", 65) + `\`} {
		wantFault(t, s, 0, api.ErrUnended)
		wantFault(t, "a+ "+s, 3, api.ErrUnended)
		wantFault(t, `""`+s, 2, api.ErrUnended)
	}
	wantFault(t, `"a" "b`, 4, api.ErrUnended)
	wantFault(t, `"a"b"`, 4, api.ErrUnended)
	wantFault(t, strings.Repeat(" ", 255)+`"`, 255, api.ErrUnended)
	wantFault(t, `"`+strings.Repeat("a", 255), 0, api.ErrUnended)
}

// P12.1: texts are as long as what they mean, whatever it takes to say it.
func TestLongTexts(t *testing.T) {
	for _, x := range []struct{ said, means string }{
		{"a", "a"}, {`\"`, `"`}, {`\\`, `\`}, {"\n", "\n"},
	} {
		wantTokens(t, `"`+strings.Repeat(x.said, 64)+`"`, text(0, strings.Repeat(x.means, 64)))
		wantTokens(t, `a "`+strings.Repeat(x.said, 64)+`"`, word(0, "a"), text(2, strings.Repeat(x.means, 64)))
		wantFault(t, `"`+strings.Repeat(x.said, 65)+`"`, 0, api.ErrLong)
		wantFault(t, `a "`+strings.Repeat(x.said, 65)+`" 07 #`, 2, api.ErrLong)
		wantFault(t, `"`+strings.Repeat(x.said, 126)+`"`, 0, api.ErrLong)
	}
	wantTokens(t, `"`+strings.Repeat("\u00e9", 32)+`"`, text(0, strings.Repeat("\u00e9", 32)))
	wantTokens(t, `"`+strings.Repeat("\U0001f600", 16)+`"`, text(0, strings.Repeat("\U0001f600", 16)))
	wantFault(t, `"`+strings.Repeat("\u00e9", 32)+`a"`, 0, api.ErrLong)
	wantFault(t, `"`+strings.Repeat("\U0001f600", 17)+`"`, 0, api.ErrLong)
	wantFault(t, `"`+strings.Repeat("a", 254)+`"`, 0, api.ErrLong)

	// What is found ahead of the end is ahead of how long it is.
	long := `"` + strings.Repeat("a", 65)
	wantFault(t, long+`\n"`, 66, api.ErrSign)
	wantFault(t, long+"\x01\"", 66, api.ErrChar)
	wantFault(t, long, 0, api.ErrUnended)
}

// P12.1: of several faults the first one from the left.
func TestFirstFault(t *testing.T) {
	faults := []struct {
		s  string
		in int
		e  api.Errno
	}{
		{"#", 0, api.ErrSign}, {"=", 0, api.ErrSign}, {"07", 0, api.ErrNumber}, {"9223372036854775808", 0, api.ErrNumber},
		{`"\n"`, 1, api.ErrSign}, {"\"\x01\"", 1, api.ErrChar}, {`"` + strings.Repeat("a", 65) + `"`, 0, api.ErrLong},
	}
	for _, x := range faults {
		for _, y := range faults {
			wantFault(t, x.s+" "+y.s, x.in, x.e)
			wantFault(t, "n < "+x.s+" "+y.s, 4+x.in, x.e)
			wantFault(t, `"a"`+x.s+" "+y.s+` "`, 3+x.in, x.e)
		}
		wantFault(t, x.s+` "`, x.in, x.e)
	}
	wantFault(t, `" # = 07 \n`, 9, api.ErrSign)
	wantFault(t, `"\n\x01`, 1, api.ErrSign)
	wantFault(t, "\"\x01\\n", 1, api.ErrChar)
	wantFault(t, "\"\x01\\", 1, api.ErrChar)
	wantFault(t, "\"a\\\x01", 2, api.ErrSign)
	wantFault(t, `"a\n`, 2, api.ErrSign)
}

// P12.2: blanks between tokens change nothing but places, and where a token
// behind another one can't be taken for its end, none are needed.
func TestBlanksBetween(t *testing.T) {
	tokens := []string{"a", "_1", "len", "0", "10", `""`, `"b c"`, `"\"\\"`, "+", "(", "!", "<", "==", "&&"}
	seed := uint64(1)
	for range 20000 {
		var bare, spaced strings.Builder
		var want []api.Tok
		last := ""
		for range next(&seed) % 12 {
			s := pick(&seed, tokens)
			if joins(last, s) {
				bare.WriteByte(' ')
			}
			spaced.WriteString(pick(&seed, []string{" ", "\t", "\n", "\r", " \r\n\t"}))
			one, _, _ := lexer.Tokens(s)
			one[0].At = spaced.Len()
			want = append(want, one...)
			bare.WriteString(s)
			spaced.WriteString(s)
			last = s
		}
		wantTokens(t, spaced.String(), want...)
		wantTokens(t, spaced.String()+" \n", want...)
		got, at, e := lexer.Tokens(bare.String())
		if at != 0 || e != api.OK || !slices.EqualFunc(got, want, sameButPlace) {
			t.Fatalf("Tokens(%q): %+v, %d, %d, want %+v", bare.String(), got, at, e, want)
		}
	}
}

func sameButPlace(x, y api.Tok) bool {
	x.At = y.At
	return x == y
}

// joins tells whether of s directly behind last something would be taken for
// more of that.
func joins(last, s string) bool {
	switch last {
	case "a", "_1", "len":
		return strings.Contains("a_l01", s[:1])
	case "0", "10":
		return strings.Contains("01", s[:1])
	}
	return (last == "!" || last == "<") && s == "=="
}

// P12.3: two answers share nothing, with s neither.
func TestAnswersAreNew(t *testing.T) {
	const s = `abc != "x" && 12 < len("\"")`
	x, _, _ := lexer.Tokens(s)
	y, _, _ := lexer.Tokens(s)
	z := slices.Clone(y)
	for i := range x {
		x[i] = word(99, "mine")
	}
	_ = append(x, word(99, "mine"))
	if len(y) != 10 || !slices.Equal(y, z) {
		t.Errorf("an answer was changed: %+v, want %+v", y, z)
	}
	wantTokens(t, s, z...)
	for _, tok := range y {
		if within(tok.Text, s) {
			t.Errorf("%+v lies in what was handed in", tok)
		}
	}
}

// within tells whether the bytes of part are some of those of s.
func within(part, s string) bool {
	at := uintptr(unsafe.Pointer(unsafe.StringData(part)))
	from := uintptr(unsafe.Pointer(unsafe.StringData(s)))
	return part != "" && at >= from && at < from+uintptr(len(s))
}
