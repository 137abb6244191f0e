package utf_test

import (
	"fmt"
	"strconv"
	"strings"
	"testing"
	"unicode/utf8"

	"pavane/utf"
)

// next is a small generator of numbers, the same in each run.
func next(x *uint64) uint32 {
	*x = *x*6364136223846793005 + 1442695040888963407
	return uint32(*x >> 32)
}

// The model says the chapter's words with bits as texts: a rune's bits are put
// into the x of a pattern from the right, and Next is the one rune whose bytes
// begin there.

const (
	one   = "0xxxxxxx"
	two   = "110xxxxx10xxxxxx"
	three = "1110xxxx10xxxxxx10xxxxxx"
	four  = "11110xxx10xxxxxx10xxxxxx10xxxxxx"
)

func pattern(r int64) string {
	switch {
	case r < 0x80:
		return one
	case r < 0x800:
		return two
	case r < 0x10000:
		return three
	}
	return four
}

func modelPut(r int64) string {
	if r < 0 || r > 0x10ffff || r >= 0xd800 && r <= 0xdfff {
		return ""
	}
	bits := []byte(pattern(r))
	left := strings.Repeat("0", 32) + strconv.FormatInt(r, 2)
	for i := len(bits) - 1; i >= 0; i-- {
		if bits[i] == 'x' {
			bits[i] = left[len(left)-1]
			left = left[:len(left)-1]
		}
	}
	var out []byte
	for i := 0; i < len(bits); i += 8 {
		n, _ := strconv.ParseUint(string(bits[i:i+8]), 2, 8)
		out = append(out, byte(n))
	}
	return string(out)
}

// modelNext reads the x of each pattern that the bits of s have the form of,
// and takes the number if these are just its bytes.
func modelNext(s string, at int) (int32, int) {
	if at < 0 || at >= len(s) {
		return 0, 0
	}
	rest := s[at:]
	for n, p := range []string{one, two, three, four} {
		if len(rest) <= n {
			break
		}
		bits := ""
		for _, b := range []byte(rest[:n+1]) {
			bits += fmt.Sprintf("%08b", b)
		}
		x := ""
		for i := range bits {
			if p[i] == 'x' {
				x += bits[i : i+1]
			}
		}
		r, _ := strconv.ParseInt(x, 2, 64)
		if modelPut(r) == rest[:n+1] {
			return int32(r), n + 1
		}
	}
	return 0, 0
}

func modelBad(s string) int {
	if s == "" || utf8.ValidString(s) {
		return -1
	}
	for at := len(s); at >= 0; at-- {
		if utf8.ValidString(s[:at]) {
			return at
		}
	}
	return 0
}

func modelPlace(s string, at int) (int, int) {
	ahead := s
	switch {
	case at < 0:
		ahead = ""
	case at < len(s):
		ahead = s[:at]
	}
	lines := strings.Split(ahead, "\n")
	return len(lines), len(lines[len(lines)-1]) + 1
}

// check holds all that can be asked of one text against the model.
func check(t *testing.T, s string) {
	t.Helper()
	if got, want := utf.Bad(s), modelBad(s); got != want {
		t.Fatalf("Bad(%q): %d, want %d", s, got, want)
	}
	for at := -2; at < len(s)+3; at++ {
		r, n := utf.Next(s, at)
		if wantR, wantN := modelNext(s, at); r != wantR || n != wantN {
			t.Fatalf("Next(%q, %d): %x, %d, want %x, %d", s, at, r, n, wantR, wantN)
		}
		if n > 0 && utf.Put(r) != s[at:at+n] {
			t.Fatalf("Put(%x): %q, want %q", r, utf.Put(r), s[at:at+n])
		}
		line, in := utf.Place(s, at)
		if wantLine, wantIn := modelPlace(s, at); line != wantLine || in != wantIn {
			t.Fatalf("Place(%q, %d): %d, %d, want %d, %d", s, at, line, in, wantLine, wantIn)
		}
	}
}

// mixed answers a text of runes of each length, line feeds and wrong bytes.
func mixed(x *uint64) string {
	var b strings.Builder
	for range next(x) % 12 {
		limit := []uint32{0x80, 0x800, 0x10000, 0x110000}[next(x)%4]
		p := string(rune(next(x) % limit))
		switch next(x) % 8 {
		case 0:
			p = "\n"
		case 1:
			p = p[:next(x)%uint32(len(p)+1)]
		case 2:
			p = string([]byte{byte(next(x))}) + p
		}
		b.WriteString(p)
	}
	return b.String()
}

// P7.1 to P7.3: texts of all sorts, against the model.
func TestTextsAgainstModel(t *testing.T) {
	x := uint64(1)
	for range 5000 {
		check(t, mixed(&x))
	}
}

// P7.1: Put against the model, at numbers of all sizes.
func TestPutAgainstModel(t *testing.T) {
	x := uint64(2)
	for range 200000 {
		r := int32(next(&x)) >> (next(&x) % 32)
		if got, want := utf.Put(r), modelPut(int64(r)); got != want {
			t.Fatalf("Put(%x): %q, want %q", r, got, want)
		}
	}
}

// P1 and P7.1 to P7.3: whatever the bytes, as the model says.
func FuzzText(f *testing.F) {
	for _, s := range []string{"", "a\nbc", "a\xc3", "\xc0\x80", "\xed\xa0\x80", "\xf4\x90\x80\x80", "\xc3\xa9\xe2\x82\xac\xf0\x9f\x98\x80\n"} {
		f.Add(s)
	}
	f.Fuzz(func(t *testing.T, s string) {
		if len(s) > 1000 {
			t.Skip("the model is slow")
		}
		check(t, s)
	})
}

// P1, P7.1 and P7.4: whatever the number.
func FuzzRune(f *testing.F) {
	for _, r := range odd {
		f.Add(r)
	}
	f.Add(int32(233))
	f.Fuzz(func(t *testing.T, r int32) {
		got := utf.Put(r)
		if want := modelPut(int64(r)); got != want {
			t.Fatalf("Put(%x): %q, want %q", r, got, want)
		}
		if utf.Letter(r) && !utf.NameRune(r) || utf.NameRune(r) && !utf.Char(r) || utf.Char(r) && got == "" {
			t.Fatalf("%x: the kinds do not lie within one another", r)
		}
	})
}
