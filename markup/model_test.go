package markup_test

import (
	"encoding/xml"
	"io"
	"regexp"
	"strconv"
	"strings"
	"testing"
	"unicode/utf8"

	"pavane/api"
	"pavane/markup"
)

// next is a small generator of numbers, the same in each run.
func next(x *uint64) uint32 {
	*x = *x*6364136223846793005 + 1442695040888963407
	return uint32(*x >> 32)
}

// The model goes through a tag rune by rune, from state to state by a table,
// and takes apart what it has found to be right by regular expressions.

// tagStates says for each state and class of runes which state comes next; a
// class that isn't there can't stand there.
var tagStates = map[string]map[byte]string{
	"<":        {'n': "name", '/': "</"},
	"name":     {'n': "name", 'm': "name", 'w': "gap", '/': "/", '>': "over"},
	"gap":      {'w': "gap", 'n': "attr", '/': "/", '>': "over"},
	"attr":     {'n': "attr", 'm': "attr", 'w': "attr gap", '=': "="},
	"attr gap": {'w': "attr gap", '=': "="},
	"=":        {'w': "=", '"': "\"", '\'': "'"},
	"\"":       {'"': "shut", '\'': "\"", 'n': "\"", 'm': "\"", 'w': "\"", '=': "\"", '/': "\"", '>': "\"", 'o': "\"", '&': "\""},
	"'":        {'\'': "shut", '"': "'", 'n': "'", 'm': "'", 'w': "'", '=': "'", '/': "'", '>': "'", 'o': "'", '&': "'"},
	"shut":     {'w': "gap", '/': "/", '>': "over"},
	"/":        {'>': "over"},
	"</":       {'n': "end"},
	"end":      {'n': "end", 'm': "end", 'w': "end gap", '>': "over"},
	"end gap":  {'w': "end gap", '>': "over"},
}

func class(r rune) byte {
	switch {
	case strings.ContainsRune("=\"'/><&", r):
		return byte(r)
	case strings.ContainsRune(" \t\r\n", r):
		return 'w'
	case strings.ContainsRune("0123456789-.", r):
		return 'm'
	case r >= 0x80 || strings.ContainsRune("ABCDEFGHIJKLMNOPQRSTUVWXYZabcdefghijklmnopqrstuvwxyz_:", r):
		return 'n'
	}
	return 'o'
}

var (
	referenceForm = regexp.MustCompile(`^&(?:lt|gt|amp|apos|quot|#[0-9]{1,8}|#x[0-9a-fA-F]{1,8});`)
	pieceForm     = regexp.MustCompile(`(?s)&[^;]*;|\r\n|.`)
	declForm      = regexp.MustCompile(`^<\?xml[ \t\r\n]`)
	nameForm      = `[A-Za-z_:\x{80}-\x{10ffff}][A-Za-z_:\x{80}-\x{10ffff}0-9.-]*`
	firstForm     = regexp.MustCompile(`^</?(` + nameForm + `)`)
	attrForm      = regexp.MustCompile(`(` + nameForm + `)[ \t\r\n]*=[ \t\r\n]*("[^"]*"|'[^']*')`)
)

// modelReference answers what a reference at the beginning of s means.
func modelReference(s string) (string, bool) {
	ref := referenceForm.FindString(s)
	if ref == "" {
		return "", false
	}
	named := map[string]string{"&lt;": "<", "&gt;": ">", "&amp;": "&", "&apos;": "'", "&quot;": "\""}
	if means, ok := named[ref]; ok {
		return means, true
	}
	number := "0" + strings.TrimSuffix(ref[2:], ";")
	base := 10
	if ref[2] == 'x' {
		base = 0
	}
	n, err := strconv.ParseInt(number, base, 64)
	if err != nil || !modelChar(n) {
		return "", false
	}
	return string(rune(n)), true
}

func modelChar(n int64) bool {
	return n == 9 || n == 10 || n == 13 || n >= 0x20 && n < 0xd800 || n > 0xdfff && n < 0xfffe || n > 0xffff && n <= 0x10ffff
}

// modelTold answers what s is told as, which has right references alone.
func modelTold(s string, value bool) string {
	return pieceForm.ReplaceAllStringFunc(s, func(p string) string {
		if p[0] == '&' {
			means, _ := modelReference(p)
			return means
		}
		if p == "\r" || p == "\r\n" {
			p = "\n"
		}
		if value && strings.Contains(" \t\n", p) {
			p = " "
		}
		return p
	})
}

// modelMarks is Marks, in other words than the program's.
func modelMarks(s string) ([]api.Mark, int, api.Errno) {
	if len(s) > 65536 {
		return nil, 0, 3
	}
	for i, r := range s {
		if r == utf8.RuneError && !strings.HasPrefix(s[i:], "\ufffd") {
			return nil, i, 71
		}
	}
	for i, r := range s {
		if !modelChar(int64(r)) {
			return nil, i, 81
		}
	}
	at := 0
	if declForm.MatchString(s) {
		n := strings.Index(s, "?>")
		if n < 0 {
			return nil, 0, 84
		}
		at = n + 2
	}
	var l []api.Mark
	for at < len(s) {
		m, n, place, e := modelOne(s[at:])
		if e != 0 {
			return nil, at + place, e
		}
		if m.Kind != 0 {
			m.At = at
			for i := range m.Attrs {
				m.Attrs[i].At += at
			}
			l = append(l, m)
		}
		at += n
	}
	return l, 0, 0
}

// modelOne answers what s begins with and how long it is, or the place of a
// fault, and which.
func modelOne(s string) (api.Mark, int, int, api.Errno) {
	for _, x := range []struct {
		begin, end string
		kind       int
	}{{"<!--", "-->", 0}, {"<![CDATA[", "]]>", api.MarkText}} {
		if !strings.HasPrefix(s, x.begin) {
			continue
		}
		n := strings.Index(s[len(x.begin):], x.end)
		if n < 0 {
			return api.Mark{}, 0, 0, 84
		}
		m := api.Mark{Kind: x.kind}
		if n == 0 {
			m.Kind = 0
		}
		if m.Kind != 0 {
			m.Text = strings.NewReplacer("\r\n", "\n", "\r", "\n").Replace(s[len(x.begin) : len(x.begin)+n])
		}
		return m, len(x.begin) + n + len(x.end), 0, 0
	}
	if s[0] == '<' {
		return modelTag(s)
	}
	run := strings.SplitN(s, "<", 2)[0]
	for i := range run {
		if _, ok := modelReference(s[i:]); run[i] == '&' && !ok {
			return api.Mark{}, 0, i, 83
		}
	}
	return api.Mark{Kind: api.MarkText, Text: modelTold(run, false)}, len(run), 0, 0
}

func modelTag(s string) (api.Mark, int, int, api.Errno) {
	state := "<"
	for i, r := range s[1:] {
		i++
		if state == "over" {
			return modelParts(s[:i]), i, 0, 0
		}
		in := state == "'" || state == "\""
		if _, ok := modelReference(s[i:]); in && r == '&' && !ok {
			return api.Mark{}, 0, i, 83
		}
		state = tagStates[state][class(r)]
		if state == "" {
			return api.Mark{}, 0, i, 82
		}
	}
	if state == "over" {
		return modelParts(s), len(s), 0, 0
	}
	return api.Mark{}, 0, 0, 84
}

// modelParts takes a right tag apart.
func modelParts(tag string) api.Mark {
	first := firstForm.FindStringSubmatch(tag)
	if tag[1] == '/' {
		return api.Mark{Kind: api.MarkEnd, Name: first[1]}
	}
	m := api.Mark{Kind: api.MarkStart, Name: first[1], Empty: strings.HasSuffix(tag, "/>")}
	from := len(first[0])
	for _, p := range attrForm.FindAllStringSubmatchIndex(tag[from:], -1) {
		rest := tag[from:]
		m.Attrs = append(m.Attrs, api.Attr{Name: rest[p[2]:p[3]], Value: modelTold(rest[p[4]+1:p[5]-1], true), At: from + p[0]})
	}
	return m
}

// check holds all that can be asked of one text against the model.
func check(t *testing.T, s string) {
	t.Helper()
	got, at, e := markup.Marks(s)
	want, wantAt, wantE := modelMarks(s)
	if e != wantE || at != wantAt || !same(got, want) {
		t.Fatalf("Marks(%q): %+v, %d, %d, want %+v, %d, %d", s, got, at, e, want, wantAt, wantE)
	}
	escaped, quoted := markup.Escape(s), markup.Quote(s)
	wantEscaped := strings.NewReplacer("&", "&amp;", "<", "&lt;", ">", "&gt;", "\r", "&#13;").Replace(s)
	wantQuoted := strings.NewReplacer("&", "&amp;", "<", "&lt;", "\"", "&quot;", "\t", "&#9;", "\n", "&#10;", "\r", "&#13;").Replace(s)
	if escaped != wantEscaped || quoted != "\""+wantQuoted+"\"" {
		t.Fatalf("%q is written %q and %q", s, escaped, quoted)
	}
	if e != api.ErrLong && e != api.ErrUtf && e != api.ErrChar && len(s) < 4000 {
		wantAgain(t, s)
	}
}

var fragments = []string{
	"<", "</", ">", "/>", "/", "=", "'", "\"", " ", "\t", "\r", "\n", "\r\n", "a", "b", "p:q", ":", "_", "1", "-", ".", "\u00e9", "\U0001f600",
	"&", ";", "#", "x", "&lt;", "&gt;", "&amp;", "&apos;", "&quot;", "&#65;", "&#x4a;", "&#13;", "&#10;", "&#0;", "&#", "&#x", "&nbsp;",
	"<!--", "-->", "--", "<![CDATA[", "]]>", "]", "<?xml ", "?>", "?", "!", "<a", "<b ", "</a>", " b='", " c=\"", "'>", "\"/>", "text",
}

// mixed answers a text of fragments, now and then with a byte that is wrong.
func mixed(x *uint64) string {
	var b strings.Builder
	if next(x)%10 == 0 {
		b.WriteString("<?xml ?>")
	}
	for range next(x) % 16 {
		b.WriteString(fragments[next(x)%uint32(len(fragments))])
		if next(x)%200 == 0 {
			b.WriteByte(byte(next(x)))
		}
	}
	return b.String()
}

// blanks, name, value and rightDocument answer right parts of documents.
func blanks(x *uint64, least uint32) string {
	s := ""
	for range least + next(x)%3 {
		s += []string{" ", "\t", "\r", "\n"}[next(x)%4]
	}
	return s
}

func name(x *uint64) string {
	s := []string{"a", "Z", "_", "x:y", "q"}[next(x)%5]
	for range next(x) % 4 {
		s += []string{"b", "0", "-", ".", "_"}[next(x)%5]
	}
	return s
}

func told(x *uint64, some []string) string {
	s := ""
	for range next(x) % 6 {
		s += some[next(x)%uint32(len(some))]
	}
	return s
}

func rightDocument(x *uint64) string {
	plain := []string{"a", " ", "\n", "1", "=", "/", ";", "\u00e9", "&lt;", "&gt;", "&amp;", "&apos;", "&quot;", "&#65;", "&#x1f600;", "&#13;"}
	var b strings.Builder
	if next(x)%3 == 0 {
		b.WriteString("<?xml" + blanks(x, 1) + "version=\"1.0\"?>")
	}
	for range next(x) % 10 {
		switch next(x) % 6 {
		case 0:
			b.WriteString("<!--" + told(x, plain) + "-->")
		case 1:
			b.WriteString("<![CDATA[" + told(x, append(plain, "<", "&", ">", "\r", "\r\n")) + "]]>")
		case 2:
			b.WriteString("</" + name(x) + blanks(x, 0) + ">")
		case 3, 4:
			b.WriteString("<" + name(x))
			for range next(x) % 4 {
				quote := []string{"'", "\""}[next(x)%2]
				b.WriteString(blanks(x, 1) + name(x) + blanks(x, 0) + "=" + blanks(x, 0) + quote + told(x, plain) + quote)
			}
			b.WriteString(blanks(x, 0) + []string{">", "/>"}[next(x)%2])
		default:
			b.WriteString(told(x, append(plain, "\r", "\r\n", "'", "\"")))
		}
	}
	return b.String()
}

// P8.1 to P8.3: texts of all sorts, against the model: fragments thrown
// together, right documents, and these with one byte more, less or other.
func TestAgainstModel(t *testing.T) {
	x := uint64(1)
	for range 60000 {
		check(t, mixed(&x))
	}
	for range 5000 {
		s := rightDocument(&x)
		check(t, s)
		if s == "" {
			continue
		}
		at := int(next(&x)) % len(s)
		f := fragments[next(&x)%uint32(len(fragments))]
		check(t, s[:at])
		check(t, s[:at]+s[at+1:])
		check(t, s[:at]+f+s[at:])
		check(t, s[:at]+f+s[at+1:])
	}
}

// P8.1: each short text of some bytes, against the model.
func TestShortAgainstModel(t *testing.T) {
	const some = "<>/='\" a1&;!?"
	texts := []string{""}
	for range 5 {
		var longer []string
		for _, s := range texts {
			check(t, s)
			for _, c := range some {
				longer = append(longer, s+string(c))
			}
		}
		texts = longer
	}
	for _, s := range texts {
		_, at, e := markup.Marks("<a b" + s)
		_, wantAt, wantE := modelMarks("<a b" + s)
		if at != wantAt || e != wantE {
			t.Fatalf("%q: %d, %d, want %d, %d", "<a b"+s, at, e, wantAt, wantE)
		}
	}
}

// P8.1: right documents as the library reads them. (It does not tell white in
// values as blanks, and tells no places; texts are put together.)
func TestAgainstLibrary(t *testing.T) {
	x := uint64(3)
	for range 5000 {
		s := rightDocument(&x)
		l, _, e := markup.Marks(s)
		if e != api.OK {
			t.Fatalf("%q: %d", s, e)
		}
		if got, want := flat(l), flatLibrary(t, s); got != want {
			t.Fatalf("%q: %q, want %q", s, got, want)
		}
	}
}

func flat(l []api.Mark) string {
	var b strings.Builder
	for _, m := range l {
		switch m.Kind {
		case api.MarkStart:
			b.WriteString("<" + m.Name)
			for _, a := range m.Attrs {
				b.WriteString("|" + a.Name + "=" + a.Value)
			}
			b.WriteString(">")
			if m.Empty {
				b.WriteString("</" + m.Name + ">")
			}
		case api.MarkEnd:
			b.WriteString("</" + m.Name + ">")
		default:
			b.WriteString(m.Text)
		}
	}
	return b.String()
}

func flatLibrary(t *testing.T, s string) string {
	t.Helper()
	whole := func(n xml.Name) string {
		if n.Space == "" {
			return n.Local
		}
		return n.Space + ":" + n.Local
	}
	d := xml.NewDecoder(strings.NewReader(s))
	var b strings.Builder
	for {
		tok, err := d.RawToken()
		if err == io.EOF {
			return b.String()
		}
		if err != nil {
			t.Fatalf("%q: %v", s, err)
		}
		switch y := tok.(type) {
		case xml.StartElement:
			b.WriteString("<" + whole(y.Name))
			for _, a := range y.Attr {
				b.WriteString("|" + whole(a.Name) + "=" + strings.ReplaceAll(a.Value, "\n", " "))
			}
			b.WriteString(">")
		case xml.EndElement:
			b.WriteString("</" + whole(y.Name) + ">")
		case xml.CharData:
			b.Write(y)
		}
	}
}

// P1 and P8.1 to P8.3: whatever the bytes, as the model says.
func FuzzMarks(f *testing.F) {
	x := uint64(5)
	for range 20 {
		f.Add(mixed(&x))
		f.Add(rightDocument(&x))
	}
	f.Add("<?xml version=\"1.0\"?>\r\n<x:a  b='1\t2'>T&amp;U<![CDATA[<&\r]]><!-- - --></x:a >")
	f.Fuzz(func(t *testing.T, s string) {
		check(t, s)
	})
}
