package tree_test

import (
	"fmt"
	"reflect"
	"strconv"
	"strings"
	"testing"

	"pavane/api"
	"pavane/markup"
	"pavane/tree"
)

func elem(at, up int, name, text string, attrs ...api.Attr) api.Elem {
	return api.Elem{Name: name, Attrs: attrs, Text: text, Up: up, At: at}
}

func attr(at int, name, value string) api.Attr {
	return api.Attr{Name: name, Value: value, At: at}
}

// same holds two lists of elements against each other; nil and empty are one.
func same(a, b []api.Elem) bool {
	if len(a) != len(b) {
		return false
	}
	for i := range a {
		x, y := a[i], b[i]
		if len(x.Attrs) == 0 && len(y.Attrs) == 0 {
			x.Attrs, y.Attrs = nil, nil
		}
		if !reflect.DeepEqual(x, y) {
			return false
		}
	}
	return true
}

// copied answers the same list in other memory.
func copied(l []api.Elem) []api.Elem {
	var c []api.Elem
	for _, x := range l {
		x.Attrs = append([]api.Attr(nil), x.Attrs...)
		c = append(c, x)
	}
	return c
}

// placeless answers the same list without any At.
func placeless(l []api.Elem) []api.Elem {
	c := copied(l)
	for i := range c {
		c[i].At = 0
		for j := range c[i].Attrs {
			c[i].Attrs[j].At = 0
		}
	}
	return c
}

func wantElems(t *testing.T, s string, want ...api.Elem) {
	t.Helper()
	got, at, e := tree.Parse(s)
	if e != api.OK || at != 0 || !same(got, want) {
		t.Errorf("Parse(%.60q): %.300q, %d, %d, want %.300q", s, fmt.Sprintf("%+v", got), at, e, fmt.Sprintf("%+v", want))
	}
}

func wantFault(t *testing.T, s string, at int, e api.Errno) {
	t.Helper()
	l, gotAt, gotE := tree.Parse(s)
	if gotE != e || gotAt != at || len(l) != 0 {
		t.Errorf("Parse(%.60q): %d elements, %d, %d, want %d, %d", s, len(l), gotAt, gotE, at, e)
	}
}

func wantText(t *testing.T, want string, l ...api.Elem) {
	t.Helper()
	got, e := tree.Write(l)
	if e != api.OK || got != want {
		t.Errorf("Write(%.300q): %.300q, %d, want %.300q", fmt.Sprintf("%+v", l), got, e, want)
	}
}

func wantNone(t *testing.T, l ...api.Elem) {
	t.Helper()
	if got, e := tree.Write(l); e != api.ErrForm || got != "" {
		t.Errorf("Write(%.300q): %.60q, %d", fmt.Sprintf("%+v", l), got, e)
	}
}

// nested answers n elements, each within the one ahead.
func nested(n int) []api.Elem {
	var l []api.Elem
	for i := range n {
		l = append(l, elem(3*i, i-1, "a", ""))
	}
	return l
}

// flat answers n elements: a root, and all others in it.
func flat(n int) []api.Elem {
	l := []api.Elem{elem(0, -1, "r", "")}
	for i := range n - 1 {
		l = append(l, elem(3+4*i, 0, "a", ""))
	}
	return l
}

// P9.1: the chapter's examples.
func TestExamples(t *testing.T) {
	wantElems(t, "<a>x<b/>y</a>", elem(0, -1, "a", "xy"), elem(4, 0, "b", ""))
	wantFault(t, "<a></b>", 3, api.ErrTag)
	wantFault(t, "<a/><b/>", 4, api.ErrRoot)
	wantFault(t, "", 0, api.ErrRoot)
}

// P9.1: elements in the order of their beginnings, with what is around them.
func TestElements(t *testing.T) {
	wantElems(t, "<a/>", elem(0, -1, "a", ""))
	wantElems(t, "<a></a>", elem(0, -1, "a", ""))
	wantElems(t, "<a  ></a\n>", elem(0, -1, "a", ""))
	wantElems(t, "<a><b/><c/></a>", elem(0, -1, "a", ""), elem(3, 0, "b", ""), elem(7, 0, "c", ""))
	wantElems(t, "<a><b><c/></b></a>", elem(0, -1, "a", ""), elem(3, 0, "b", ""), elem(6, 1, "c", ""))
	wantElems(t, "<a><b><c></c></b><d><e/></d><f/></a>",
		elem(0, -1, "a", ""), elem(3, 0, "b", ""), elem(6, 1, "c", ""), elem(17, 0, "d", ""), elem(20, 3, "e", ""), elem(28, 0, "f", ""))
	wantElems(t, "<a><a><a/></a><a><a></a></a></a>",
		elem(0, -1, "a", ""), elem(3, 0, "a", ""), elem(6, 1, "a", ""), elem(14, 0, "a", ""), elem(17, 3, "a", ""))
	wantElems(t, "<p:a><:/><\u00e9.1/></p:a>", elem(0, -1, "p:a", ""), elem(5, 0, ":", ""), elem(9, 0, "\u00e9.1", ""))
	wantElems(t, "<a b='1' c = \"&lt;\t\"><d e=''/></a>",
		elem(0, -1, "a", "", attr(3, "b", "1"), attr(9, "c", "< ")), elem(21, 0, "d", "", attr(24, "e", "")))
}

// P9.1: the texts that stand directly in an element, one behind the other.
func TestTexts(t *testing.T) {
	wantElems(t, "<a>x</a>", elem(0, -1, "a", "x"))
	wantElems(t, "<a> \r\n\t</a>", elem(0, -1, "a", " \n\t"))
	wantElems(t, "<a>1<b>2<c>3</c>4</b>5<d/>6</a>",
		elem(0, -1, "a", "156"), elem(4, 0, "b", "24"), elem(8, 1, "c", "3"), elem(22, 0, "d", ""))
	wantElems(t, "<a>\n <b/>\n <c> </c>\n</a>", elem(0, -1, "a", "\n \n \n"), elem(5, 0, "b", ""), elem(11, 0, "c", " "))
	wantElems(t, "<a>x<![CDATA[<&]]>y<!-- z --><![CDATA[]]>&amp;&#13;</a>", elem(0, -1, "a", "x<&y&\r"))
	wantElems(t, "<a><!-- x --></a>", elem(0, -1, "a", ""))
	wantElems(t, "<a><b>x</b><b>y</b></a>", elem(0, -1, "a", ""), elem(3, 0, "b", "x"), elem(11, 0, "b", "y"))
	wantElems(t, "<a><b/>x</a>", elem(0, -1, "a", "x"), elem(3, 0, "b", ""))
	wantElems(t, "<a>\u00e9<b/>\U0001f600</a>", elem(0, -1, "a", "\u00e9\U0001f600"), elem(5, 0, "b", ""))
}

// P9.1: outside of the root there is white, and what markup passes over.
func TestOutside(t *testing.T) {
	for _, w := range []string{"", " ", "\t\r\n ", "<!-- x -->", " <!--<a>--> ", "&#32;", "&#9;&#xA;\n&#13;", "<![CDATA[ \n]]>", "<![CDATA[]]>", " <![CDATA[\t]]> "} {
		wantElems(t, w+"<a>x</a>"+w, elem(len(w), -1, "a", "x"))
		wantElems(t, w+"<a/>"+w, elem(len(w), -1, "a", ""))
		wantFault(t, w, len(w), api.ErrRoot)
		wantFault(t, w+"<a/>"+w+"<b/>", 2*len(w)+4, api.ErrRoot)
		wantFault(t, w+"<a></a>"+w+"</a>", 2*len(w)+7, api.ErrTag)
	}
	wantElems(t, "<?xml version='1.0'?>\n<a/>\n", elem(22, -1, "a", ""))
	for _, x := range []string{"x", "\u00a0", "&amp;", "&#160;", "<![CDATA[x]]>", " x ", "\nx", "\u2028", "\u0085", "]]>", "\ufeff"} {
		wantFault(t, x, 0, api.ErrRoot)
		wantFault(t, x+"<a/>", 0, api.ErrRoot)
		wantFault(t, " <!-- -->"+x+"<a/>", 9, api.ErrRoot)
		wantFault(t, "<a/>"+x, 4, api.ErrRoot)
		wantFault(t, "<a><b></b></a>"+x, 14, api.ErrRoot)
		wantFault(t, "<a/>"+x+"<b/>", 4, api.ErrRoot)
		wantFault(t, "<a/>"+x+"</b>", 4, api.ErrRoot)
	}
	wantFault(t, "<?xml ?>", 8, api.ErrRoot)
	wantFault(t, "<?xml ?> <!-- --> \n", 19, api.ErrRoot)
}

// P9.1: a second root, however the first one ended.
func TestRootOver(t *testing.T) {
	wantFault(t, "<a/><a/>", 4, api.ErrRoot)
	wantFault(t, "<a></a><b>", 7, api.ErrRoot)
	wantFault(t, "<a><b/></a> <c></c>", 12, api.ErrRoot)
	wantFault(t, "<a/> <!-- --><b></c>", 13, api.ErrRoot)
}

// P9.1: what ends must be the innermost one.
func TestWrongEnds(t *testing.T) {
	wantFault(t, "</a>", 0, api.ErrTag)
	wantFault(t, " </a>", 1, api.ErrTag)
	wantFault(t, "<a/></a>", 4, api.ErrTag)
	wantFault(t, "<a></a></a>", 7, api.ErrTag)
	wantFault(t, "<a></A>", 3, api.ErrTag)
	wantFault(t, "<a></aa>", 3, api.ErrTag)
	wantFault(t, "<aa></a>", 4, api.ErrTag)
	wantFault(t, "<p:a></a>", 5, api.ErrTag)
	wantFault(t, "<p:a></q:a>", 5, api.ErrTag)
	wantFault(t, "<a><b></a></b>", 6, api.ErrTag)
	wantFault(t, "<a><b></a>", 6, api.ErrTag)
	wantFault(t, "<a><b/></b></a>", 7, api.ErrTag)
	wantFault(t, "<a><b></b></b></a>", 10, api.ErrTag)
	wantFault(t, "<a><b></b><c></b></a>", 13, api.ErrTag)
	wantFault(t, "<a>x</b>", 4, api.ErrTag)
}

// P9.1: at the end the innermost one that is open.
func TestUnended(t *testing.T) {
	wantFault(t, "<a>", 0, api.ErrUnended)
	wantFault(t, " <a>x ", 1, api.ErrUnended)
	wantFault(t, "<a><b>", 3, api.ErrUnended)
	wantFault(t, "<a><b/>", 0, api.ErrUnended)
	wantFault(t, "<a><b></b>", 0, api.ErrUnended)
	wantFault(t, "<a><b></b><c>", 10, api.ErrUnended)
	wantFault(t, "<a><b><c></c>", 3, api.ErrUnended)
	wantFault(t, "<a><a><a></a><a></a>", 3, api.ErrUnended)
	wantFault(t, strings.Repeat("<a>", api.MaxLevels), 3*(api.MaxLevels-1), api.ErrUnended)
}

// P9.1: levels go up to MaxLevels, of elements that are empty, too.
func TestDeep(t *testing.T) {
	begins, ends := strings.Repeat("<a>", api.MaxLevels), strings.Repeat("</a>", api.MaxLevels)
	wantElems(t, begins+ends, nested(api.MaxLevels)...)
	wantElems(t, begins[3:]+"<a/>"+ends[4:], nested(api.MaxLevels)...)
	wantElems(t, begins+ends[:8]+begins[:6]+ends,
		append(nested(api.MaxLevels), elem(56, 13, "a", ""), elem(59, 16, "a", ""))...)
	wantFault(t, begins+"<a>", 3*api.MaxLevels, api.ErrDeep)
	wantFault(t, begins+"<a/>"+ends, 3*api.MaxLevels, api.ErrDeep)
	wantFault(t, begins+" <!-- --><a></a>"+ends, 3*api.MaxLevels+9, api.ErrDeep)
	wantFault(t, begins+"</a><a><a>", 3*api.MaxLevels+7, api.ErrDeep)
	wantFault(t, strings.Repeat("<a>", 20000), 3*api.MaxLevels, api.ErrDeep)
}

// P9.1: elements go up to MaxElems, the root among them.
func TestMany(t *testing.T) {
	most := strings.Repeat("<a/>", api.MaxElems-1)
	wantElems(t, "<r>"+most+"</r>", flat(api.MaxElems)...)
	wantFault(t, "<r>"+most+"<a/></r>", 3+len(most), api.ErrMany)
	wantFault(t, "<r>"+most+"x <a></a></r>", 5+len(most), api.ErrMany)
	wantFault(t, "<r>"+most+"<a/><a/>", 3+len(most), api.ErrMany)
	wantFault(t, "<r>"+most+"</a>", 3+len(most), api.ErrTag)
	wantFault(t, "<r>"+most, 0, api.ErrUnended)
	wantFault(t, "<r>"+strings.Repeat("<a><a/></a>", api.MaxElems/2)+"</r>", 3+11*(api.MaxElems/2-1)+3, api.ErrMany)
}

// P9.1: the first attribute that has the name of an earlier one.
func TestTwice(t *testing.T) {
	wantFault(t, "<a b='1' b='2'/>", 9, api.ErrTwice)
	wantFault(t, "<a b='1' b='1'>", 9, api.ErrTwice)
	wantFault(t, "<a b='' c='' b='' c=''/>", 13, api.ErrTwice)
	wantFault(t, "<a b='' c='' c='' b=''/>", 13, api.ErrTwice)
	wantFault(t, "<a b='' c='' d='' b='' b=''/>", 18, api.ErrTwice)
	wantFault(t, "<r><a b=''/><a b='' b=''/></r>", 20, api.ErrTwice)
	wantFault(t, "<a p:b='' b='' q:b='' p:b=''/>", 22, api.ErrTwice)
	wantFault(t, "<a xmlns='u' xmlns='v'/>", 13, api.ErrTwice)
	wantElems(t, "<a b='1' B='1' bb='1' p:b='1'><b b='1'/></a>",
		elem(0, -1, "a", "", attr(3, "b", "1"), attr(9, "B", "1"), attr(15, "bb", "1"), attr(22, "p:b", "1")), elem(30, 0, "b", "", attr(33, "b", "1")))

	s, want := "<a", elem(0, -1, "a", "")
	for i := range 5000 {
		want.Attrs = append(want.Attrs, attr(len(s)+1, "n"+strconv.Itoa(i), ""))
		s += " " + want.Attrs[i].Name + "=''"
	}
	wantElems(t, s+"/>", want)
	wantFault(t, s+" n4999=''/>", len(s)+1, api.ErrTwice)
	wantFault(t, s+" n0='' n0=''/>", len(s)+1, api.ErrTwice)
}

// P9.1: what markup finds stands ahead of all else, wherever it is.
func TestMarkupFirst(t *testing.T) {
	long := strings.Repeat(" ", api.MaxText-4) + "<a/>"
	wantElems(t, long, elem(api.MaxText-4, -1, "a", ""))
	wantFault(t, long+" ", 0, api.ErrLong)
	wantFault(t, "</a>"+long, 0, api.ErrLong)
	wantFault(t, "x\xff", 1, api.ErrUtf)
	wantFault(t, "</a>\x01", 4, api.ErrChar)
	wantFault(t, "<a/><b/><c", 8, api.ErrUnended)
	wantFault(t, "</a>&x;", 4, api.ErrEntity)
	wantFault(t, "<a></b><1>", 8, api.ErrMarkup)
	wantFault(t, strings.Repeat("<a>", 17)+"<!--", 51, api.ErrUnended)
	wantFault(t, "<a b='' b=''><a b>", 17, api.ErrMarkup)
	wantFault(t, "<a", 0, api.ErrUnended)
	wantFault(t, "<!DOCTYPE a><a/>", 1, api.ErrMarkup)
}

// P9.1: of several faults the one of the first mark, and of one mark's the one
// that is named first.
func TestFirstFault(t *testing.T) {
	wantFault(t, "x</a><b/>", 0, api.ErrRoot)
	wantFault(t, "</a>x", 0, api.ErrTag)
	wantFault(t, "<a b='' b=''></c>", 8, api.ErrTwice)
	wantFault(t, "<a></c><a b='' b=''/>", 3, api.ErrTag)
	wantFault(t, "<a/><a b='' b=''/>", 4, api.ErrRoot)

	deep := strings.Repeat("<a>", api.MaxLevels)
	wantFault(t, deep+"<a b='' b=''/>", len(deep), api.ErrDeep)
	many := "<r>" + strings.Repeat("<a/>", api.MaxElems-1)
	wantFault(t, many+"<a b='' b=''/>", len(many), api.ErrMany)
	wantFault(t, many+"</r><a/>", len(many)+4, api.ErrRoot)
	both := "<r>" + strings.Repeat("<a/>", api.MaxElems-api.MaxLevels) + deep[3:]
	wantFault(t, both+"<a b='' b=''>", len(both), api.ErrDeep)
	wantFault(t, both+"</a><a>", len(both)+4, api.ErrMany)
}

// P9.2: what is written.
func TestWritten(t *testing.T) {
	root := elem(0, -1, "a", "")
	wantText(t, "<a/>", root)
	wantText(t, "<a>x</a>", elem(0, -1, "a", "x"))
	wantText(t, "<a> </a>", elem(0, -1, "a", " "))
	wantText(t, "<a><b/></a>", root, elem(0, 0, "b", ""))
	wantText(t, "<a>x<b>y</b></a>", elem(0, -1, "a", "x"), elem(0, 0, "b", "y"))
	wantText(t, "<a><b/><c/></a>", root, elem(0, 0, "b", ""), elem(0, 0, "c", ""))
	wantText(t, "<a><b><c/></b></a>", root, elem(0, 0, "b", ""), elem(0, 1, "c", ""))
	wantText(t, "<a><b>1</b><c><d>2</d></c><e/></a>", root, elem(0, 0, "b", "1"), elem(0, 0, "c", ""), elem(0, 2, "d", "2"), elem(0, 0, "e", ""))
	wantText(t, "<a><a><a><a/></a></a><a/></a>", root, elem(0, 0, "a", ""), elem(0, 1, "a", ""), elem(0, 2, "a", ""), elem(0, 0, "a", ""))
	wantText(t, "<a><b><c><d/></c></b><e/></a>", root, elem(0, 0, "b", ""), elem(0, 1, "c", ""), elem(0, 2, "d", ""), elem(0, 0, "e", ""))
	wantText(t, `<a b="1" c=""/>`, elem(0, -1, "a", "", attr(0, "b", "1"), attr(0, "c", "")))
	wantText(t, `<a c=""><b b="&lt;&amp;&quot;'>&#9;&#10;&#13; "> &lt;&gt;&amp;"'&#13;`+"\n\t"+`</b></a>`,
		elem(0, -1, "a", "", attr(0, "c", "")), elem(0, 0, "b", " <>&\"'\r\n\t", attr(0, "b", "<&\"'>\t\n\r ")))
	wantText(t, "<:a.-1 \u00e9:\U0001f600=\"\u00e9\">\U0001f600</:a.-1>", elem(0, -1, ":a.-1", "\U0001f600", attr(0, "\u00e9:\U0001f600", "\u00e9")))
}

// P9.2: At isn't looked at.
func TestAtIsNotLookedAt(t *testing.T) {
	for _, at := range []int{-1, 7, 1 << 40} {
		wantText(t, `<a><b c="1"/></a>`, elem(at, -1, "a", ""), elem(-at, 0, "b", "", attr(at, "c", "1")))
	}
}

// P9.2: where elements can't stand.
func TestWrongUps(t *testing.T) {
	wantNone(t)
	for _, up := range []int{-2, 0, 1, 1 << 40, -1 << 40} {
		wantNone(t, elem(0, up, "a", ""))
		wantNone(t, elem(0, up, "a", ""), elem(0, 0, "b", ""))
	}
	root := elem(0, -1, "a", "")
	for _, up := range []int{-2, -1, 1, 2, 1 << 40, -1 << 40} {
		wantNone(t, root, elem(0, up, "b", ""))
		wantNone(t, root, elem(0, up, "b", ""), elem(0, 0, "c", ""))
	}
	three := []api.Elem{root, elem(0, 0, "b", ""), elem(0, 0, "c", "")}
	for _, up := range []int{-2, -1, 1, 3, 4} {
		wantNone(t, append(three, elem(0, up, "d", ""))...)
	}
	wantText(t, "<a><b/><c/><d/></a>", append(three, elem(0, 0, "d", ""))...)
	wantText(t, "<a><b/><c><d/></c></a>", append(three, elem(0, 2, "d", ""))...)
	wantNone(t, root, elem(0, 0, "b", "x"), elem(0, 0, "c", "x"), elem(0, 1, "d", "x"))
	wantNone(t, root, elem(0, 0, "b", ""), elem(0, 1, "c", ""), elem(0, 0, "d", ""), elem(0, 2, "e", ""))
}

// P9.2: names of elements and of attributes.
func TestWrongNames(t *testing.T) {
	for _, n := range []string{
		"", " ", "1", "1a", "-a", ".", "a b", " a", "a ", "a\n", "a=", "a>", "a/", "<a", "a&b", "a\"", "a'", "a;", "@", "a\u0000", "\x7f",
		"\xff", "a\xff", "\xc3", "a\xc3", "\xe9", "a\xed\xa0\x80", "\xc0\x80", "\ufffe", "a\uffff", "a\ufffe", "!--", "?xml",
	} {
		wantNone(t, elem(0, -1, n, ""))
		wantNone(t, elem(0, -1, "a", ""), elem(0, 0, n, ""))
		wantNone(t, elem(0, -1, "a", "", attr(0, n, "")))
		wantNone(t, elem(0, -1, "a", ""), elem(0, 0, "b", "", attr(0, "c", ""), attr(0, n, "")))
	}
	for _, n := range []string{"a", "Z", "_", ":", "::", "a:b:c", "a1", "a-.", "_9", "\u0080", "\u00e9", "\ufffd", "\U00010000", "\U0010ffff", "a\u00a0", "xml", "xmlns", strings.Repeat("n", 1000)} {
		wantText(t, "<"+n+"/>", elem(0, -1, n, ""))
		wantText(t, "<a "+n+"=\"\"/>", elem(0, -1, "a", "", attr(0, n, "")))
	}
}

// P9.2: an attribute's name twice, of one element.
func TestTwiceWritten(t *testing.T) {
	wantNone(t, elem(0, -1, "a", "", attr(0, "b", "1"), attr(0, "b", "2")))
	wantNone(t, elem(0, -1, "a", "", attr(0, "b", ""), attr(0, "c", ""), attr(0, "b", "")))
	wantNone(t, elem(0, -1, "a", ""), elem(0, 0, "a", "", attr(0, "c", ""), attr(0, "c", "")))
	wantText(t, `<a b="" B=""><b b=""/></a>`, elem(0, -1, "a", "", attr(0, "b", ""), attr(0, "B", "")), elem(0, 0, "b", "", attr(0, "b", "")))

	var many []api.Attr
	for i := range 100000 {
		many = append(many, attr(0, "n"+strconv.Itoa(i), ""))
	}
	if s, e := tree.Write([]api.Elem{elem(0, -1, "a", "", many...)}); e != api.OK || len(s) < 800000 {
		t.Error(len(s), e)
	}
	wantNone(t, elem(0, -1, "a", "", append(many, attr(0, "n0", ""))...))
}

// P9.2: levels and numbers of elements.
func TestWrittenLimits(t *testing.T) {
	n := api.MaxLevels
	wantText(t, strings.Repeat("<a>", n-1)+"<a/>"+strings.Repeat("</a>", n-1), nested(n)...)
	wantNone(t, nested(n+1)...)
	wantNone(t, nested(n*n)...)
	wantText(t, strings.Repeat("<a>", n-1)+"<a/><b/>"+strings.Repeat("</a>", n-1), append(nested(n), elem(0, n-2, "b", ""))...)
	wantNone(t, append(nested(n), elem(0, n-1, "b", ""))...)
	wantText(t, strings.Repeat("<a>", n-1)+"<a/></a><b><c/></b>"+strings.Repeat("</a>", n-2),
		append(nested(n), elem(0, n-3, "b", ""), elem(0, n, "c", ""))...)
	wantNone(t, append(nested(n), elem(0, n-3, "b", ""), elem(0, n, "c", ""), elem(0, n+1, "d", ""))...)

	wantText(t, "<r>"+strings.Repeat("<a/>", api.MaxElems-1)+"</r>", flat(api.MaxElems)...)
	wantNone(t, flat(api.MaxElems+1)...)
	wantNone(t, flat(20*api.MaxElems)...)
}

// P9.2: texts and values are characters alone.
func TestWrongCharacters(t *testing.T) {
	for _, s := range []string{"\x00", "\x01", "a\x08", "\x0b", "\x0c", "\x0e", "\x1f", "\ufffe", "a\uffff", "\xff", "\xc3", "a\xc3\xa9\xc3", "\xed\xa0\x80", "\xc0\x80", "\xf4\x90\x80\x80", "\x80"} {
		wantNone(t, elem(0, -1, "a", s))
		wantNone(t, elem(0, -1, "a", "x"), elem(0, 0, "b", s))
		wantNone(t, elem(0, -1, "a", "", attr(0, "b", s)))
		wantNone(t, elem(0, -1, "a", "", attr(0, "b", "x"), attr(0, "c", "y"+s)))
	}
	for _, s := range []string{"\t\n ", "\x7f", "\u0080", "\ud7ff", "\ue000", "\ufffd", "\U00010000", "\U0001fffe", "\U0010ffff", "]]>", "<!-- -->"} {
		wantText(t, "<a>"+markup.Escape(s)+"</a>", elem(0, -1, "a", s))
		wantText(t, "<a b="+markup.Quote(s)+"/>", elem(0, -1, "a", "", attr(0, "b", s)))
	}
}

// P9.2: there is no most of bytes for what is written.
func TestWrittenLong(t *testing.T) {
	long := strings.Repeat("x", 1<<20)
	wantText(t, "<a>"+long+"</a>", elem(0, -1, "a", long))
	wantText(t, "<a b=\""+long+"\"/>", elem(0, -1, "a", "", attr(0, "b", long)))
	wantNone(t, elem(0, -1, "a", long+"\x00"))
}

// wantAgain checks P9.3 of the list of a document.
func wantAgain(t *testing.T, l []api.Elem) {
	t.Helper()
	s, e := tree.Write(l)
	if e != api.OK {
		t.Fatalf("Write(%+v): %d", l, e)
	}
	if len(s) > api.MaxText {
		wantFault(t, s, 0, api.ErrLong)
		return
	}
	got, at, e := tree.Parse(s)
	if e != api.OK || at != 0 || !same(placeless(got), placeless(l)) {
		t.Fatalf("%q is read as %+v, %d, %d, want %+v", s, got, at, e, l)
	}
	for _, x := range got {
		if !strings.HasPrefix(s[x.At:], "<"+x.Name) {
			t.Fatalf("%q: %s stands not at %d", s, x.Name, x.At)
		}
	}
	if again, e := tree.Write(got); e != api.OK || again != s {
		t.Fatalf("%q is written again as %q, %d", s, again, e)
	}
}

// P9.3: what is written is read again, of all kinds of characters.
func TestReadAgain(t *testing.T) {
	wantAgain(t, nested(api.MaxLevels))
	wantAgain(t, flat(api.MaxElems))
	some := []rune("\t\n\r !\"#&'()-/09:;<=>?A[]_alx\x7f\u0080\u00e9\u2028\ufeff\ufffd\U00010000\U0010ffff")
	for _, a := range some {
		for _, b := range some {
			s := string(a) + string(b)
			wantAgain(t, []api.Elem{elem(0, -1, "a", s, attr(0, "b", s)), elem(0, 0, "b", "", attr(0, "c", s)), elem(0, 0, "c", s), elem(0, 0, "d", "")})
		}
	}
	for n := api.MaxText - 20; n < api.MaxText+5; n++ {
		wantAgain(t, []api.Elem{elem(0, -1, "a", strings.Repeat("x", n))})
	}
}

// P9.4: what is handed in stays, its spare room too.
func TestHandedInStays(t *testing.T) {
	all := append(nested(5), elem(0, 3, "b", "<x>", attr(0, "c", "\t"), attr(0, "d", "&")), elem(0, 0, "e", "y"), elem(0, 8, "spare", "spare"))
	attrs := append([]api.Attr(nil), attr(0, "b", "1"), attr(0, "spare", "2"))
	all[0].Attrs = attrs[:1]
	before, attrsBefore := copied(all), append([]api.Attr(nil), attrs...)
	for _, l := range [][]api.Elem{all[:7], all[:3], all} {
		tree.Write(l)
	}
	if !same(all, before) || !reflect.DeepEqual(attrs, attrsBefore) {
		t.Errorf("%+v, %+v", all, attrs)
	}
}

// P9.4: none of one call's memory is in another one's, and no two lists of one
// answer share any.
func TestNewMemory(t *testing.T) {
	const s = "<a b='1' c='2'>x<d e='3'/>y<f g='4'/></a>"
	want := []api.Elem{elem(0, -1, "a", "xy", attr(3, "b", "1"), attr(9, "c", "2")), elem(16, 0, "d", "", attr(19, "e", "3")), elem(27, 0, "f", "", attr(30, "g", "4"))}
	first, _, _ := tree.Parse(s)
	for i := range first {
		room := first[i].Attrs[:cap(first[i].Attrs)]
		for j := range room {
			room[j].Value += "z"
		}
	}
	for i := range first {
		for j := range first[i].Attrs {
			if first[i].Attrs[j].Value != want[i].Attrs[j].Value+"z" {
				t.Errorf("%+v", first)
			}
		}
	}
	clear(first[:cap(first)])
	wantElems(t, s, want...)
}

// P1: nothing panics, and with an error all else is zero.
func TestZeroBesideErrors(t *testing.T) {
	for _, s := range []string{"", "x", "<a>", "<a/><a/>", "</a>", "<a b='' b=''/>", "<", "\xff"} {
		if l, _, e := tree.Parse(s); e == api.OK || len(l) != 0 {
			t.Errorf("Parse(%q): %v, %d", s, l, e)
		}
	}
	wantNone(t, []api.Elem{}...)
	wantNone(t, api.Elem{})
	wantNone(t, elem(0, -1, "a", "x"), api.Elem{})
}
