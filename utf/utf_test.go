package utf_test

import (
	"math"
	"strings"
	"testing"
	"unicode/utf8"

	"pavane/utf"
)

// odd are numbers that are no runes, at the edges and far away.
var odd = []int32{
	-1, -2, -128, -0x80000000, math.MinInt32 + 1,
	0xd800, 0xd801, 0xdbff, 0xdc00, 0xdffe, 0xdfff,
	0x110000, 0x110001, 0x1fffff, 0x200000, 0x7fffffff,
}

func wantNext(t *testing.T, s string, at int, r int32, n int) {
	t.Helper()
	if gotR, gotN := utf.Next(s, at); gotR != r || gotN != n {
		t.Errorf("Next(%q, %d): %x, %d, want %x, %d", s, at, gotR, gotN, r, n)
	}
}

// P7.1: the bytes of runes, at the edges of each length.
func TestPutKnown(t *testing.T) {
	cases := []struct {
		r     int32
		bytes string
	}{
		{0, "\x00"}, {1, "\x01"}, {'a', "a"}, {0x7f, "\x7f"},
		{0x80, "\xc2\x80"}, {0xbf, "\xc2\xbf"}, {0xc0, "\xc3\x80"}, {233, "\xc3\xa9"}, {0x7ff, "\xdf\xbf"},
		{0x800, "\xe0\xa0\x80"}, {0xfff, "\xe0\xbf\xbf"}, {0x1000, "\xe1\x80\x80"}, {0x20ac, "\xe2\x82\xac"},
		{0xd7ff, "\xed\x9f\xbf"}, {0xe000, "\xee\x80\x80"}, {0xfffd, "\xef\xbf\xbd"},
		{0xfffe, "\xef\xbf\xbe"}, {0xffff, "\xef\xbf\xbf"},
		{0x10000, "\xf0\x90\x80\x80"}, {0x1f600, "\xf0\x9f\x98\x80"}, {0x3ffff, "\xf0\xbf\xbf\xbf"},
		{0x40000, "\xf1\x80\x80\x80"}, {0x10ffff, "\xf4\x8f\xbf\xbf"},
	}
	for _, c := range cases {
		if got := utf.Put(c.r); got != c.bytes {
			t.Errorf("Put(%x): %x, want %x", c.r, got, c.bytes)
		}
		wantNext(t, c.bytes, 0, c.r, len(c.bytes))
	}
	for _, r := range odd {
		if got := utf.Put(r); got != "" {
			t.Errorf("Put(%x): %x, want nothing", r, got)
		}
	}
}

// P7.1: each number, a good way beyond the last rune, as the library has it,
// and Next tells it again, with others ahead of it and behind it.
func TestPutAndNextOfAll(t *testing.T) {
	for r := int32(-0x100); r < 0x220000; r++ {
		got := utf.Put(r)
		if !utf8.ValidRune(r) {
			if got != "" {
				t.Fatalf("Put(%x): %x, want nothing", r, got)
			}
			continue
		}
		if want := string(r); got != want {
			t.Fatalf("Put(%x): %x, want %x", r, got, want)
		}
		s := "\xc3\xa9" + got + "\xbf"
		if x, n := utf.Next(s, 2); x != r || n != len(got) {
			t.Fatalf("Next of %x: %x, %d", got, x, n)
		}
		if x, n := utf.Next(got, 0); x != r || n != len(got) {
			t.Fatalf("Next of %x alone: %x, %d", got, x, n)
		}
	}
}

// P7.1: a place out of the text has no rune; the rune 0 is told by its length.
func TestNextOutOfTheText(t *testing.T) {
	for _, s := range []string{"", "a", "\xc3\xa9", "abc"} {
		for _, at := range []int{-1, -2, math.MinInt, len(s), len(s) + 1, math.MaxInt} {
			wantNext(t, s, at, 0, 0)
		}
	}
	wantNext(t, "\x00", 0, 0, 1)
	wantNext(t, "a\x00b", 1, 0, 1)
}

// P7.1: a tail has no rune, and neither has one whose tails are cut off.
func TestNextWithinARune(t *testing.T) {
	for _, s := range []string{"\xc3\xa9", "\xe2\x82\xac", "\xf0\x9f\x98\x80"} {
		for at := 1; at < len(s); at++ {
			wantNext(t, s, at, 0, 0)
			wantNext(t, s[:at], 0, 0, 0)
			wantNext(t, s[:at]+"a", 0, 0, 0)
			wantNext(t, s[:at]+s, 0, 0, 0)
			wantNext(t, s[:at]+s, at, mustRune(s), len(s))
		}
	}
}

func mustRune(s string) int32 {
	r, _ := utf8.DecodeRuneInString(s)
	return r
}

// P7.1: bytes that begin no rune, too long ones, surrogates, too high ones.
func TestNextOfWrongBytes(t *testing.T) {
	wrong := []string{
		"\x80", "\xbf", "\xc0", "\xc1", "\xf5", "\xf8", "\xfc", "\xfe", "\xff",
		"\xc0\x80", "\xc0\xaf", "\xc1\xbf",
		"\xe0\x80\x80", "\xe0\x9f\xbf", "\xf0\x80\x80\x80", "\xf0\x8f\xbf\xbf",
		"\xed\xa0\x80", "\xed\xaf\xbf", "\xed\xb0\x80", "\xed\xbf\xbf",
		"\xf4\x90\x80\x80", "\xf4\xbf\xbf\xbf", "\xf5\x80\x80\x80", "\xf7\xbf\xbf\xbf",
		"\xf8\x88\x80\x80\x80", "\xfb\xbf\xbf\xbf\xbf", "\xfc\x84\x80\x80\x80\x80", "\xfd\xbf\xbf\xbf\xbf\xbf",
		"\xc3\x00", "\xc3\x7f", "\xc3\xc0", "\xc3\xff", "\xe2\x82\x2c", "\xe2\x02\xac", "\xe2\xc2\xac",
		"\xf0\x9f\x98\x00", "\xf0\x9f\x18\x80", "\xf0\x1f\x98\x80", "\xf0\xdf\x98\x80",
	}
	for _, s := range wrong {
		wantNext(t, s, 0, 0, 0)
		wantNext(t, "ok"+s+"ok", 2, 0, 0)
	}
}

// P7.1: each two bytes, and each three and four of some at the edges, as the
// library has them.
func TestNextOfAllBytes(t *testing.T) {
	for a := range 256 {
		for b := range 256 {
			wantAsLibrary(t, string([]byte{byte(a), byte(b)}))
		}
	}
	edges := []byte{0, 0x7f, 0x80, 0x8f, 0x90, 0x9f, 0xa0, 0xbf, 0xc0, 0xff}
	for a := range 256 {
		for _, b := range edges {
			for _, c := range edges {
				wantAsLibrary(t, string([]byte{byte(a), b, c}))
				for _, d := range edges {
					wantAsLibrary(t, string([]byte{byte(a), b, c, d}))
				}
			}
		}
	}
}

func wantAsLibrary(t *testing.T, s string) {
	t.Helper()
	r, n := utf8.DecodeRuneInString(s)
	if r == utf8.RuneError && n < 3 {
		r, n = 0, 0
	}
	wantNext(t, s, 0, r, n)
}

// P7.2: where there is no rune, behind runes of each length.
func TestBad(t *testing.T) {
	cases := []struct {
		s    string
		want int
	}{
		{"", -1}, {"a", -1}, {"\x00", -1}, {"a\x00b\n", -1}, {"\xef\xbf\xbd", -1}, {"\xef\xbf\xbe\xef\xbf\xbf", -1},
		{"\xc3\xa9\xe2\x82\xac\xf0\x9f\x98\x80", -1},
		{"a\xc3", 1}, {"\xc3", 0}, {"\x80a", 0}, {"ab\xff", 2},
		{"\xc3\xa9\xa9", 2}, {"\xe2\x82\xac\xe2\x82", 3}, {"\xf0\x9f\x98\x80\xf0\x9f\x98", 4},
		{"\xc3\xc3\xa9", 0}, {"\xe2\x82a", 0}, {"\xe2\xc3\xa9", 0}, {"\xf0\x9f\xe2\x82\xac", 0},
		{"a\xed\xa0\x80\xed\xb0\x80", 1}, {"ab\xc0\x80", 2}, {"a\xff\xff", 1}, {"a\xc3\xa9\xff\xc3", 3},
	}
	for _, c := range cases {
		if got := utf.Bad(c.s); got != c.want {
			t.Errorf("Bad(%q): %d, want %d", c.s, got, c.want)
		}
	}
}

// P7.2: a long text, right, and with one byte spoilt at each of some places.
func TestBadOfLong(t *testing.T) {
	const unit = "a\xc3\xa9\xe2\x82\xac\xf0\x9f\x98\x80"
	begins := []int{0, 1, 1, 3, 3, 3, 6, 6, 6, 6}
	s := strings.Repeat(unit, 20000)
	if got := utf.Bad(s); got != -1 {
		t.Fatalf("a right text: %d", got)
	}
	for at := range len(unit) {
		place := len(unit)*19990 + at
		got := utf.Bad(s[:place] + "\xff" + s[place+1:])
		if want := place - at + begins[at]; got != want {
			t.Errorf("spoilt at %d: %d, want %d", place, got, want)
		}
	}
}

// P7.3: each byte's line and place, a line feed that of the line it ends.
func TestPlace(t *testing.T) {
	cases := []struct {
		s            string
		at, line, in int
	}{
		{"", 0, 1, 1}, {"", -1, 1, 1}, {"", 5, 1, 1},
		{"a\nbc", 3, 2, 2},
		{"a\nbc", 0, 1, 1}, {"a\nbc", 1, 1, 2}, {"a\nbc", 2, 2, 1}, {"a\nbc", 4, 2, 3},
		{"a\nbc", 5, 2, 3}, {"a\nbc", math.MaxInt, 2, 3}, {"a\nbc", -1, 1, 1}, {"a\nbc", math.MinInt, 1, 1},
		{"\n", 0, 1, 1}, {"\n", 1, 2, 1}, {"\n\n", 1, 2, 1}, {"\n\n", 2, 3, 1}, {"ab\n", 3, 2, 1},
		{"a\rb", 2, 1, 3}, {"a\r\nb", 2, 1, 3}, {"a\r\nb", 3, 2, 1}, {"a\tb", 2, 1, 3},
		{"\xc3\xa9x", 2, 1, 3}, {"\xc3\xa9x", 1, 1, 2}, {"\xff\n\xff", 2, 2, 1},
		{"\xc2\x85x", 2, 1, 3}, {"\xe2\x80\xa8x", 3, 1, 4},
	}
	for _, c := range cases {
		if line, in := utf.Place(c.s, c.at); line != c.line || in != c.in {
			t.Errorf("Place(%q, %d): %d, %d, want %d, %d", c.s, c.at, line, in, c.line, c.in)
		}
	}
}

// P7.3: each place of a text, against the text cut to its lines.
func TestPlaceOfAll(t *testing.T) {
	s := strings.Repeat("one\n\ntwo three\n\xc3\xa9\n", 50) + "last"
	at := 0
	for i, line := range strings.SplitAfter(s, "\n") {
		for j := range len(line) {
			if l, in := utf.Place(s, at); l != i+1 || in != j+1 {
				t.Fatalf("the byte %d: %d, %d, want %d, %d", at, l, in, i+1, j+1)
			}
			at++
		}
	}
	if l, in := utf.Place(s, at); l != 201 || in != 5 || at != len(s) {
		t.Errorf("behind the text: %d, %d", l, in)
	}
}

// P7.4: the kinds at their edges.
func TestKindsKnown(t *testing.T) {
	cases := []struct {
		runes              string
		char, letter, name bool
	}{
		{"\x00\x01\x08\x0b\x0c\x0e\x1f", false, false, false},
		{"\t\n\r !\"#$%&'()*+,/:;<=>?@[\\]^`{|}~\x7f", true, false, false},
		{"-.0123456789", true, false, true},
		{"ABCDEFGHIJKLMNOPQRSTUVWXYZ_abcdefghijklmnopqrstuvwxyz", true, true, true},
		{"\u0080\u0085\u009f\u00a0\u00b7\u00d7\u00e9\u07ff\u0800\u2028\u20ac\ud7ff\ue000\ufeff\ufffd", true, true, true},
		{"\ufffe\uffff", false, false, false},
		{"\U00010000\U0001fffe\U0001ffff\U0001f600\U0010fffe\U0010ffff", true, true, true},
	}
	for _, c := range cases {
		for _, r := range c.runes {
			wantKinds(t, r, c.char, c.letter, c.name)
		}
	}
	for _, r := range odd {
		wantKinds(t, r, false, false, false)
	}
}

func wantKinds(t *testing.T, r int32, char, letter, name bool) {
	t.Helper()
	if utf.Char(r) != char || utf.Letter(r) != letter || utf.NameRune(r) != name {
		t.Errorf("%x: %v, %v, %v, want %v, %v, %v", r, utf.Char(r), utf.Letter(r), utf.NameRune(r), char, letter, name)
	}
}

// P7.4: each number, a good way beyond the last rune; the kinds lie within
// one another, and behind 7f they are one.
func TestKindsOfAll(t *testing.T) {
	const others = "!\"#$%&'()*+,/:;<=>?@[\\]^`{|}~\x7f \t\n\r"
	for r := int32(-0x100); r < 0x220000; r++ {
		char := utf8.ValidRune(r) && !strings.ContainsRune("\ufffe\uffff", r) && (r >= 0x20 || r == 9 || r == 10 || r == 13)
		name := char && !strings.ContainsRune(others, r)
		letter := name && !strings.ContainsRune("-.0123456789", r)
		if utf.Char(r) != char || utf.Letter(r) != letter || utf.NameRune(r) != name {
			t.Fatalf("%x: %v, %v, %v", r, utf.Char(r), utf.Letter(r), utf.NameRune(r))
		}
	}
}
