package tree_test

import (
	"encoding/xml"
	"io"
	"regexp"
	"slices"
	"strconv"
	"strings"
	"testing"
	"unicode/utf8"

	"pavane/api"
	"pavane/markup"
	"pavane/tree"
)

// next is a small generator of numbers, the same in each run.
func next(x *uint64) uint32 {
	*x = *x*6364136223846793005 + 1442695040888963407
	return uint32(*x >> 32)
}

func pick(x *uint64, some []string) string {
	return some[next(x)%uint32(len(some))]
}

// modelParse is Parse, in other words than the program's: where it stands is a
// path of places, as /0/3/4, and elements are looked for from the end.
func modelParse(s string) ([]api.Elem, int, api.Errno) {
	marks, at, e := markup.Marks(s)
	if e != 0 {
		return nil, at, e
	}
	var l []api.Elem
	path := ""
	here := func() int {
		n, err := strconv.Atoi(path[strings.LastIndex(path, "/")+1:])
		if err != nil {
			return -1
		}
		return n
	}
	up := func() { path = path[:strings.LastIndex(path, "/")] }
	for _, m := range marks {
		if at, e := modelFault(l, path, here(), m); e != 0 {
			return nil, at, e
		}
		if m.Kind == api.MarkText && path != "" {
			l[here()].Text += m.Text
		}
		if m.Kind == api.MarkStart {
			l = append(l, api.Elem{Name: m.Name, Attrs: m.Attrs, Up: here(), At: m.At})
			path += "/" + strconv.Itoa(len(l)-1)
		}
		if m.Kind == api.MarkEnd || m.Empty {
			up()
		}
	}
	if path != "" {
		return nil, l[here()].At, 84
	}
	if len(l) == 0 {
		return nil, len(s), 95
	}
	return l, 0, 0
}

// modelFault answers what is wrong with m, and where.
func modelFault(l []api.Elem, path string, here int, m api.Mark) (int, api.Errno) {
	for _, x := range []struct {
		kind  int
		wrong bool
		e     api.Errno
	}{
		{api.MarkStart, path == "" && len(l) != 0, 95},
		{api.MarkStart, strings.Count(path, "/")+1 > 16, 93},
		{api.MarkStart, len(l)+1 > 4096, 94},
		{api.MarkEnd, path == "" || l[max(here, 0)].Name != m.Name, 91},
		{api.MarkText, path == "" && regexp.MustCompile(`[^ \t\r\n]`).MatchString(m.Text), 95},
	} {
		if x.kind == m.Kind && x.wrong {
			return m.At, x.e
		}
	}
	for i, a := range m.Attrs {
		if slices.ContainsFunc(m.Attrs[:i], func(b api.Attr) bool { return b.Name == a.Name }) {
			return a.At, 92
		}
	}
	return 0, 0
}

var nameForm = regexp.MustCompile(`^[A-Za-z_:\x{80}-\x{fffd}\x{10000}-\x{10ffff}][A-Za-z_:\x{80}-\x{fffd}\x{10000}-\x{10ffff}0-9.-]*$`)

var characterForm = regexp.MustCompile(`^[\t\n\r\x{20}-\x{fffd}\x{10000}-\x{10ffff}]*$`)

func modelName(s string) bool {
	return utf8.ValidString(s) && nameForm.MatchString(s)
}

func modelText(s string) bool {
	return utf8.ValidString(s) && characterForm.MatchString(s)
}

// modelWrite is Write, in other words than the program's: a tree is made of
// all Ups and gone through, and must come by the elements in their order.
func modelWrite(l []api.Elem) (string, api.Errno) {
	in := map[int][]int{}
	for i, x := range l {
		if x.Up >= i || x.Up < 0 && i > 0 {
			return "", 2
		}
		in[x.Up] = append(in[x.Up], i)
	}
	if len(in[-1]) != 1 || len(l) > 4096 {
		return "", 2
	}
	var order []int
	var write func(i, level int) string
	deep := false
	write = func(i, level int) string {
		order = append(order, i)
		deep = deep || level > 16
		s := "<" + l[i].Name
		for _, a := range l[i].Attrs {
			s += " " + a.Name + "=" + markup.Quote(a.Value)
		}
		inner := markup.Escape(l[i].Text)
		for _, j := range in[i] {
			inner += write(j, level+1)
		}
		if inner == "" {
			return s + "/>"
		}
		return s + ">" + inner + "</" + l[i].Name + ">"
	}
	s := write(0, 1)
	if deep || !slices.IsSorted(order) {
		return "", 2
	}
	for _, x := range l {
		names := map[string]bool{}
		for _, a := range x.Attrs {
			names[a.Name] = true
			if !modelName(a.Name) || !modelText(a.Value) {
				return "", 2
			}
		}
		if len(names) < len(x.Attrs) || !modelName(x.Name) || !modelText(x.Text) {
			return "", 2
		}
	}
	return s, 0
}

// checkParse holds Parse of one text against the model.
func checkParse(t *testing.T, s string) {
	t.Helper()
	got, at, e := tree.Parse(s)
	want, wantAt, wantE := modelParse(s)
	if e != wantE || at != wantAt || !same(got, want) {
		t.Fatalf("Parse(%q): %+v, %d, %d, want %+v, %d, %d", s, got, at, e, want, wantAt, wantE)
	}
	if e == api.OK {
		wantAgain(t, got)
	}
}

// checkWrite holds Write of one list against the model.
func checkWrite(t *testing.T, l []api.Elem) {
	t.Helper()
	before := copied(l)
	got, e := tree.Write(l)
	want, wantE := modelWrite(l)
	if e != wantE || got != want {
		t.Fatalf("Write(%+v): %q, %d, want %q, %d", l, got, e, want, wantE)
	}
	if !same(l, before) {
		t.Fatalf("Write(%+v) has made it %+v", before, l)
	}
	if e == api.OK {
		wantAgain(t, l)
	}
}

// P9.1: all rows of some marks, against the model.
func TestAllRows(t *testing.T) {
	some := []string{"<a>", "<b>", "</a>", "</b>", "<a/>", "<b c='1'/>", "x", " "}
	rows := []string{""}
	for range 6 {
		var longer []string
		for _, s := range rows {
			checkParse(t, s)
			for _, m := range some {
				longer = append(longer, s+m)
			}
		}
		rows = longer
	}
	for _, s := range rows {
		checkParse(t, s)
	}
}

var fragments = []string{
	"<a>", "<b>", "<a>", "<b>", "<p:c x='1' y='2'>", "</a>", "</b>", "</a>", "</b>", "</p:c>", "<a/>", "<b />", "<a b='' c='' b=''/>", "<b x='' x=''>",
	"x", " ", "\n", "\r", "&lt;", "&#32;", "&#13;", "<!-- x -->", "<![CDATA[x]]>", "<![CDATA[ ]]>", "<![CDATA[]]>", "\u00e9", "<a b=\"&#9;\">",
}

// mixed answers a text of fragments, now and then with one that is no mark.
func mixed(x *uint64) string {
	s := ""
	if next(x)%10 == 0 {
		s = "<?xml ?>"
	}
	for range next(x) % 40 {
		s += pick(x, fragments)
		if next(x)%300 == 0 {
			s += pick(x, []string{"<", "&", "\xff", "\x01", "<!--", "<?xml ?>"})
		}
	}
	return s
}

// document answers a right document, and what its elements are but for At.
func document(x *uint64) (string, []api.Elem) {
	var b strings.Builder
	var l []api.Elem
	var open []int
	text := func() {
		for range next(x) % 3 {
			p := [][2]string{{"t", "t"}, {" ", " "}, {"\r\n", "\n"}, {"&amp;", "&"}, {"&#13;", "\r"}, {"<![CDATA[<]]>", "<"}, {"<!--<-->", ""}, {">", ">"}}[next(x)%8]
			b.WriteString(p[0])
			l[open[len(open)-1]].Text += p[1]
		}
	}
	for {
		e := api.Elem{Name: pick(x, []string{"a", "b", "p:c", "\u00e9"}), Up: -1}
		if len(open) > 0 {
			e.Up = open[len(open)-1]
		}
		b.WriteString("<" + e.Name)
		for i := range next(x) % 3 {
			a := api.Attr{Name: pick(x, []string{"k", "q:k", "xmlns"}) + strconv.Itoa(int(i)), Value: pick(x, []string{"", "1", "\"", "'", "<\t\n"})}
			e.Attrs = append(e.Attrs, a)
			b.WriteString(" " + a.Name + "=" + markup.Quote(a.Value))
		}
		l = append(l, e)
		if next(x)%4 == 0 || len(open) == 15 {
			b.WriteString("/>")
		} else {
			b.WriteString(">")
			open = append(open, len(l)-1)
			text()
		}
		for len(open) > 0 && (next(x)%3 == 0 || len(l) > 60) {
			b.WriteString("</" + l[open[len(open)-1]].Name + pick(x, []string{"", " "}) + ">")
			open = open[:len(open)-1]
			if len(open) > 0 {
				text()
			}
		}
		if len(open) == 0 {
			return b.String(), l
		}
	}
}

// P9.1 to P9.3: texts of all sorts, against the model: fragments thrown
// together, right documents, and these with a fragment more, less or other.
func TestTextsAgainstModel(t *testing.T) {
	x := uint64(1)
	for range 40000 {
		checkParse(t, mixed(&x))
	}
	for range 3000 {
		s, want := document(&x)
		got, at, e := tree.Parse(s)
		if e != api.OK || at != 0 || !same(placeless(got), want) {
			t.Fatalf("Parse(%q): %+v, %d, %d, want %+v", s, got, at, e, want)
		}
		checkParse(t, s)
		checkWrite(t, want)
		from := int(next(&x)) % len(s)
		to := min(len(s), from+int(next(&x)%8))
		checkParse(t, s[:from])
		checkParse(t, s[:from]+s[to:])
		checkParse(t, s[:from]+pick(&x, fragments)+s[from:])
		tag := strings.LastIndex(s[:from+1], "<")
		checkParse(t, s[:tag]+pick(&x, fragments)+s[tag:])
	}
}

// P9.2: all lists of up to five elements, by their Ups, with and without texts.
func TestAllUps(t *testing.T) {
	var each func(l []api.Elem)
	each = func(l []api.Elem) {
		checkWrite(t, l)
		if len(l) == 5 {
			return
		}
		for up := -2; up <= len(l)+1; up++ {
			for _, text := range []string{"", "x"} {
				each(append(l[:len(l):len(l)], api.Elem{Name: string(rune('a' + len(l))), Text: text, Up: up}))
			}
		}
	}
	each(nil)
}

// listed answers a list that is one of a document, if no byte of it says
// something else.
func listed(bytes []byte) []api.Elem {
	byteAt := func(i int) int {
		if i < len(bytes) {
			return int(bytes[i])
		}
		return 0
	}
	names := []string{"a", "b", "p:q", ":", "\u00e9", "a1", "", "1", "a b", "\xff", "a\uffff", "a\n"}
	texts := []string{"", "", "x", " ", "<&>\"'", "\r\n\t", "]]>", "\U0010ffff", "\x00", "\xc3", "\ufffe"}
	// Of a byte its lower part tells one of those that are right, but for a
	// few bytes that tell one of all.
	choose := func(some []string, right, b int) string {
		if b >= 240 {
			return some[b%len(some)]
		}
		return some[b%right]
	}
	var l []api.Elem
	up := -1
	for i := 0; i < len(bytes); i += 4 {
		for range byteAt(i) % 4 {
			if up > 0 && up < len(l) {
				up = l[up].Up
			}
		}
		x := api.Elem{Name: choose(names, 6, byteAt(i+1)), Text: choose(texts, 8, byteAt(i+2)), Up: up, At: byteAt(i)}
		if byteAt(i) >= 248 {
			x.Up = byteAt(i+1)%16 - 3
		}
		for j := range byteAt(i+3) % 4 {
			x.Attrs = append(x.Attrs, api.Attr{Name: choose(names, 6, byteAt(i+3)/4+byteAt(i+3)/16*j), Value: choose(texts, 8, byteAt(i+2)/4+j), At: i})
		}
		l = append(l, x)
		up = len(l) - 1
	}
	return l
}

// P9.2 and P9.3: lists of all sorts, against the model.
func TestListsAgainstModel(t *testing.T) {
	x, right := uint64(2), 0
	for range 60000 {
		bytes := make([]byte, next(&x)%100)
		for i := range bytes {
			bytes[i] = byte(next(&x) % 248)
			if next(&x)%20 == 0 {
				bytes[i] = byte(next(&x))
			}
		}
		l := listed(bytes)
		checkWrite(t, l)
		if _, e := tree.Write(l); e == api.OK {
			right++
		}
	}
	if right < 5000 {
		t.Errorf("only %d of a document", right)
	}
}

// P9.1: right documents as the library reads them.
func TestAgainstLibrary(t *testing.T) {
	x := uint64(3)
	for range 3000 {
		s, _ := document(&x)
		got, _, e := tree.Parse(s)
		want := library(t, s)
		if e != api.OK || !same(placeless(got), want) {
			t.Fatalf("%q: %+v, %d, want %+v", s, got, e, want)
		}
	}
}

func library(t *testing.T, s string) []api.Elem {
	t.Helper()
	whole := func(n xml.Name) string {
		return strings.TrimPrefix(n.Space+":"+n.Local, ":")
	}
	var l []api.Elem
	up := -1
	d := xml.NewDecoder(strings.NewReader(s))
	for {
		tok, err := d.RawToken()
		if err == io.EOF {
			return l
		}
		if err != nil {
			t.Fatalf("%q: %v", s, err)
		}
		switch y := tok.(type) {
		case xml.StartElement:
			e := api.Elem{Name: whole(y.Name), Up: up}
			for _, a := range y.Attr {
				e.Attrs = append(e.Attrs, api.Attr{Name: whole(a.Name), Value: a.Value})
			}
			up = len(l)
			l = append(l, e)
		case xml.EndElement:
			up = l[up].Up
		case xml.CharData:
			l[up].Text += string(y)
		}
	}
}

// P1 and P9.1 to P9.3: whatever the bytes, as the model says.
func FuzzParse(f *testing.F) {
	x := uint64(5)
	for range 20 {
		s, _ := document(&x)
		f.Add(s)
		f.Add(mixed(&x))
	}
	f.Fuzz(func(t *testing.T, s string) {
		checkParse(t, s)
	})
}

// P1 and P9.2 to P9.4: whatever the list, as the model says.
func FuzzWrite(f *testing.F) {
	f.Add([]byte{0, 0, 0, 0, 0, 1, 2, 5, 1, 2, 3, 200, 250, 3, 4, 0})
	f.Add([]byte("a list of some elements, as it comes"))
	f.Fuzz(func(t *testing.T, bytes []byte) {
		checkWrite(t, listed(bytes))
	})
}
