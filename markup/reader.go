package markup

import (
	"strings"

	"pavane/api"
	"pavane/utf"
)

// reader reads a document of characters from the left: what is next stands at
// at, and what it is reading began at from.
type reader struct {
	s        string
	at, from int
	marks    []api.Mark
}

// way says how what begins with a text is read, from behind that text on.
type way struct {
	begin string
	read  func(*reader)
}

// ways answers all of them. The first one that fits is taken, so that a longer
// beginning stands ahead of a shorter one; the last one fits always.
func ways() []way {
	return []way{
		{"<!--", (*reader).comment},
		{"<![CDATA[", (*reader).cdata},
		{"</", (*reader).endTag},
		{"<", (*reader).startTag},
		{"", (*reader).text},
	}
}

// document reads all of it.
func (r *reader) document() {
	all := ways()
	r.declaration()
	for r.at < len(r.s) {
		r.next(all)
	}
}

// next reads what begins here, in the first way that fits.
func (r *reader) next(all []way) {
	for _, w := range all {
		if strings.HasPrefix(r.s[r.at:], w.begin) {
			r.from = r.at
			r.at += len(w.begin)
			w.read(r)
			return
		}
	}
}

// declaration passes over the <?xml that the document may begin with.
func (r *reader) declaration() {
	rest, ok := strings.CutPrefix(r.s, "<?xml")
	if ok && rest != "" && white(rest[0]) {
		r.upTo("?>")
	}
}

// comment passes over the rest of a comment.
func (r *reader) comment() {
	r.upTo("-->")
}

// cdata reads the rest of a CDATA, in which nothing but line ends is told
// otherwise than it stands.
func (r *reader) cdata() {
	text := r.upTo("]]>")
	if text == "" {
		return
	}
	text = strings.ReplaceAll(text, "\r\n", "\n")
	text = strings.ReplaceAll(text, "\r", "\n")
	r.tell(api.Mark{Kind: api.MarkText, Text: text})
}

// text reads what stands between tags.
func (r *reader) text() {
	var b strings.Builder
	for r.at < len(r.s) && r.here() != '<' {
		b.WriteString(r.piece())
	}
	r.tell(api.Mark{Kind: api.MarkText, Text: b.String()})
}

// startTag reads the rest of a tag that begins an element.
func (r *reader) startTag() {
	m := api.Mark{Kind: api.MarkStart, Name: r.name()}
	for {
		spaced := r.blanks()
		c := r.here()
		if c == '>' || c == '/' {
			break
		}
		if !spaced {
			r.wrong()
		}
		m.Attrs = append(m.Attrs, r.attribute())
	}
	if r.here() == '/' {
		r.at++
		m.Empty = true
	}
	r.must('>')
	r.tell(m)
}

// endTag reads the rest of a tag that ends an element.
func (r *reader) endTag() {
	name := r.name()
	r.blanks()
	r.must('>')
	r.tell(api.Mark{Kind: api.MarkEnd, Name: name})
}

// attribute reads an attribute of a tag. Its place is taken ahead of its name:
// in one literal Go could read at behind it.
func (r *reader) attribute() api.Attr {
	a := api.Attr{At: r.at}
	a.Name = r.name()
	r.blanks()
	r.must('=')
	r.blanks()
	a.Value = r.value()
	return a
}

// value reads an attribute's value. White is told as a blank only where it
// stands in the document: what comes by a reference stays.
func (r *reader) value() string {
	quote := r.here()
	if quote != '"' && quote != '\'' {
		r.wrong()
	}
	r.at++
	var b strings.Builder
	for r.here() != quote {
		c := r.here()
		if c == '<' || c == 0 {
			r.wrong()
		}
		p := r.piece()
		if white(c) {
			p = " "
		}
		b.WriteString(p)
	}
	r.at++
	return b.String()
}

// name reads a name.
func (r *reader) name() string {
	from := r.at
	for fits := utf.Letter; ; fits = utf.NameRune {
		c, n := utf.Next(r.s, r.at)
		if c != ':' && !fits(c) {
			break
		}
		r.at += n
	}
	if r.at == from {
		r.wrong()
	}
	return r.s[from:r.at]
}

// piece reads a byte, a line end or a reference, and answers what it is told
// as.
func (r *reader) piece() string {
	switch r.here() {
	case '&':
		return r.reference()
	case '\r':
		r.at++
		if r.here() == '\n' {
			r.at++
		}
		return "\n"
	}
	r.at++
	return r.s[r.at-1 : r.at]
}

// reference reads a reference.
func (r *reader) reference() string {
	body, _, ended := strings.Cut(r.s[r.at:], ";")
	means := meaning(body)
	if !ended || means == "" {
		panic(fault{r.at, api.ErrEntity})
	}
	r.at += len(body) + 1
	return means
}

// blanks passes over white, and answers whether there is any.
func (r *reader) blanks() bool {
	from := r.at
	for white(r.here()) {
		r.at++
	}
	return r.at > from
}

// must passes over the byte c, which alone can stand here.
func (r *reader) must(c byte) {
	if r.here() != c {
		r.wrong()
	}
	r.at++
}

// here answers the byte that is next. Where the document ends it answers 0,
// which is no character, and so fits nowhere.
func (r *reader) here() byte {
	if r.at == len(r.s) {
		return 0
	}
	return r.s[r.at]
}

// upTo answers what stands ahead of the next end, and passes over both.
func (r *reader) upTo(end string) string {
	ahead, _, ok := strings.Cut(r.s[r.at:], end)
	if !ok {
		r.unended()
	}
	r.at += len(ahead) + len(end)
	return ahead
}

// tell adds a mark, which began at from.
func (r *reader) tell(m api.Mark) {
	m.At = r.from
	r.marks = append(r.marks, m)
}

// wrong gives up at what can't stand here in a tag: a byte, or the document's
// end.
func (r *reader) wrong() {
	if r.at == len(r.s) {
		r.unended()
	}
	panic(fault{r.at, api.ErrMarkup})
}

// unended gives up at the first byte of what has no end.
func (r *reader) unended() {
	panic(fault{r.from, api.ErrUnended})
}

// white answers whether c is white.
func white(c byte) bool {
	return c == ' ' || c == '\t' || c == '\r' || c == '\n'
}
