package markup_test

import (
	"fmt"
	"reflect"
	"strings"
	"testing"

	"pavane/api"
	"pavane/markup"
)

func start(at int, name string, attrs ...api.Attr) api.Mark {
	return api.Mark{Kind: api.MarkStart, Name: name, Attrs: attrs, At: at}
}

func empty(at int, name string, attrs ...api.Attr) api.Mark {
	return api.Mark{Kind: api.MarkStart, Name: name, Attrs: attrs, Empty: true, At: at}
}

func end(at int, name string) api.Mark {
	return api.Mark{Kind: api.MarkEnd, Name: name, At: at}
}

func text(at int, s string) api.Mark {
	return api.Mark{Kind: api.MarkText, Text: s, At: at}
}

func attr(at int, name, value string) api.Attr {
	return api.Attr{Name: name, Value: value, At: at}
}

// same holds two lists of marks against each other; nil and empty are one.
func same(a, b []api.Mark) bool {
	if len(a) != len(b) {
		return false
	}
	for i := range a {
		x, y := a[i], b[i]
		if len(x.Attrs) == 0 && len(y.Attrs) == 0 {
			x.Attrs, y.Attrs = nil, nil
		}
		if !reflect.DeepEqual(x, y) {
			return false
		}
	}
	return true
}

func wantMarks(t *testing.T, s string, want ...api.Mark) {
	t.Helper()
	got, at, e := markup.Marks(s)
	if e != api.OK || at != 0 || !same(got, want) {
		t.Errorf("Marks(%.60q): %.300q, %d, %d, want %.300q", s, fmt.Sprintf("%+v", got), at, e, fmt.Sprintf("%+v", want))
	}
}

func wantFault(t *testing.T, s string, at int, e api.Errno) {
	t.Helper()
	l, gotAt, gotE := markup.Marks(s)
	if gotE != e || gotAt != at || len(l) != 0 {
		t.Errorf("Marks(%.60q): %d marks, %d, %d, want %d, %d", s, len(l), gotAt, gotE, at, e)
	}
}

// P8.1: the chapter's examples.
func TestExamples(t *testing.T) {
	wantMarks(t, `<a b = "1&amp;2"/>`, empty(0, "a", attr(3, "b", "1&2")))
	wantFault(t, "x<", 1, api.ErrUnended)
	wantFault(t, `<a b="1"c="2">`, 8, api.ErrMarkup)
	wantFault(t, "&#0;", 0, api.ErrEntity)
	wantFault(t, "&nbsp;", 0, api.ErrEntity)
	wantMarks(t, "<a><b></a>", start(0, "a"), start(3, "b"), end(6, "a"))
}

// P8.1: nothing, and one of each.
func TestOneOfEach(t *testing.T) {
	wantMarks(t, "")
	wantMarks(t, "x", text(0, "x"))
	wantMarks(t, " ", text(0, " "))
	wantMarks(t, "<a>", start(0, "a"))
	wantMarks(t, "<a/>", empty(0, "a"))
	wantMarks(t, "</a>", end(0, "a"))
	wantMarks(t, "<!---->")
	wantMarks(t, "<?xml ?>")
	wantMarks(t, "<![CDATA[]]>")
	wantMarks(t, "<![CDATA[x]]>", text(0, "x"))
	wantMarks(t, "a<b c='d'>e</b>f<g/>h",
		text(0, "a"), start(1, "b", attr(4, "c", "d")), text(10, "e"), end(11, "b"), text(15, "f"), empty(16, "g"), text(20, "h"))
}

// P8.1: errors of the whole document, each ahead of the next one.
func TestWholeDocument(t *testing.T) {
	long := strings.Repeat("a", api.MaxText)
	wantMarks(t, long, text(0, long))
	wantFault(t, long+"a", 0, api.ErrLong)
	wantFault(t, "<"+long, 0, api.ErrLong)
	wantFault(t, "\xff"+long, 0, api.ErrLong)
	wantFault(t, "\x00"+long, 0, api.ErrLong)

	wantFault(t, "\xff", 0, api.ErrUtf)
	wantFault(t, "ab\xc3", 2, api.ErrUtf)
	wantFault(t, "\x00\xc3\xa9\xc0\x80", 3, api.ErrUtf)
	wantFault(t, "<<&\xed\xa0\x80", 3, api.ErrUtf)
	wantFault(t, "<!-- \xff -->", 5, api.ErrUtf)

	wantFault(t, "a\x00", 1, api.ErrChar)
	wantFault(t, "\xc3\xa9\x1f\x01", 2, api.ErrChar)
	wantFault(t, "<<&\x0b", 3, api.ErrChar)
	wantFault(t, "\xef\xbf\xbe", 0, api.ErrChar)
	wantFault(t, "\xef\xbf\xbd\xef\xbf\xbf", 3, api.ErrChar)
	wantFault(t, "<!-- \x01 -->", 5, api.ErrChar)
	wantFault(t, "<?xml \x08?>", 6, api.ErrChar)
	wantMarks(t, "\t\x7f\u0080\U0001ffff", text(0, "\t\x7f\u0080\U0001ffff"))
}

// P8.1: the <?xml is one at the very beginning alone, with white behind it.
func TestDeclaration(t *testing.T) {
	for _, w := range []string{" ", "\t", "\r", "\n"} {
		wantMarks(t, "<?xml"+w+"?>x", text(8, "x"))
	}
	wantMarks(t, `<?xml version="1.0"?><a/>`, empty(21, "a"))
	wantMarks(t, "<?xml <&?x>> ?>?>", text(15, "?>"))
	wantMarks(t, "<?xml ??>")
	wantMarks(t, "<?xml ?>\r\n<a>", text(8, "\n"), start(10, "a"))

	wantFault(t, "<?xml ", 0, api.ErrUnended)
	wantFault(t, "<?xml <a> ? >", 0, api.ErrUnended)
	wantFault(t, "<?xml", 1, api.ErrMarkup)
	wantFault(t, "<?xml?>", 1, api.ErrMarkup)
	wantFault(t, "<?xmlx ?>", 1, api.ErrMarkup)
	wantFault(t, "<?XML ?>", 1, api.ErrMarkup)
	wantFault(t, "<?x ?>", 1, api.ErrMarkup)
	wantFault(t, "<?", 1, api.ErrMarkup)
	wantFault(t, " <?xml ?>", 2, api.ErrMarkup)
	wantFault(t, "\ufeff<?xml ?>", 4, api.ErrMarkup)
	wantFault(t, "<?xml ?><?xml ?>", 9, api.ErrMarkup)
	wantFault(t, "<!-- --><?xml ?>", 9, api.ErrMarkup)
}

// P8.1: comments end at the next -->, which begins behind the <!--.
func TestComments(t *testing.T) {
	wantMarks(t, "<!-- <a>&x; -- ]]> ?> -->x", text(25, "x"))
	wantMarks(t, "<!----->")
	wantMarks(t, "<!-- --> -->", text(8, " -->"))
	wantMarks(t, "a<!-- -->b", text(0, "a"), text(9, "b"))
	wantMarks(t, "a\r<!-- -->\nb", text(0, "a\n"), text(10, "\nb"))

	wantFault(t, "<!--", 0, api.ErrUnended)
	wantFault(t, "<!-->", 0, api.ErrUnended)
	wantFault(t, "<!--->", 0, api.ErrUnended)
	wantFault(t, "x<!-- <a> &x; --", 1, api.ErrUnended)
	wantFault(t, "<!-- --><!-- - ->", 8, api.ErrUnended)
	wantFault(t, "<!-", 1, api.ErrMarkup)
	wantFault(t, "<!", 1, api.ErrMarkup)
	wantFault(t, "x<!- -->", 2, api.ErrMarkup)
	wantFault(t, "<!DOCTYPE a>", 1, api.ErrMarkup)
	wantFault(t, "<a <!-- -->>", 3, api.ErrMarkup)
}

// P8.1: a CDATA is told as it stands, but for line ends.
func TestCdata(t *testing.T) {
	wantMarks(t, "<![CDATA[<a b='&amp;&x;'> <!-- \t]] > ]>]]>", text(0, "<a b='&amp;&x;'> <!-- \t]] > ]>"))
	wantMarks(t, "<![CDATA[]]]>", text(0, "]"))
	wantMarks(t, "<![CDATA[]]]]>", text(0, "]]"))
	wantMarks(t, "<![CDATA[>]]>", text(0, ">"))
	wantMarks(t, "<![CDATA[<![CDATA[]]>]]>", text(0, "<![CDATA["), text(21, "]]>"))
	wantMarks(t, "<![CDATA[\r\n\r\r\n\n\r]]>\n", text(0, "\n\n\n\n\n"), text(19, "\n"))
	wantMarks(t, "<![CDATA[&#13;\r&#10;]]>", text(0, "&#13;\n&#10;"))
	wantMarks(t, "<![CDATA[ ]]>", text(0, " "))
	wantMarks(t, "a<![CDATA[b]]>c<![CDATA[]]>d", text(0, "a"), text(1, "b"), text(14, "c"), text(27, "d"))

	wantFault(t, "<![CDATA[", 0, api.ErrUnended)
	wantFault(t, "x<![CDATA[ <a &x; ]]", 1, api.ErrUnended)
	wantFault(t, "<![CDATA[]>", 0, api.ErrUnended)
	wantFault(t, "<![CDATA", 1, api.ErrMarkup)
	wantFault(t, "<![cdata[]]>", 1, api.ErrMarkup)
	wantFault(t, "<![ CDATA[]]>", 1, api.ErrMarkup)
}

// P8.1: what may stand between tags, and its line ends.
func TestTexts(t *testing.T) {
	wantMarks(t, "a>b ]]> ?> --> ' \" = /", text(0, "a>b ]]> ?> --> ' \" = /"))
	wantMarks(t, "\xc3\xa9\xe2\x82\xac\xf0\x9f\x98\x80", text(0, "\u00e9\u20ac\U0001f600"))
	wantMarks(t, "\r", text(0, "\n"))
	wantMarks(t, "\r\n", text(0, "\n"))
	wantMarks(t, "\n\r", text(0, "\n\n"))
	wantMarks(t, "\r\r\n\n\r\n\t x", text(0, "\n\n\n\n\t x"))
	wantMarks(t, "&#13;\n", text(0, "\r\n"))
	wantMarks(t, "\r&#10;", text(0, "\n\n"))
	wantMarks(t, "&#13;&#10;&#xD;\r\n", text(0, "\r\n\r\n"))
	wantMarks(t, "\r\n<a>\r", text(0, "\n"), start(2, "a"), text(5, "\n"))
}

// P8.1: each reference, by name and by number, in texts and values.
func TestReferences(t *testing.T) {
	cases := []struct{ s, means string }{
		{"&lt;", "<"}, {"&gt;", ">"}, {"&amp;", "&"}, {"&apos;", "'"}, {"&quot;", "\""},
		{"&#65;", "A"}, {"&#065;", "A"}, {"&#00000065;", "A"}, {"&#9;", "\t"}, {"&#10;", "\n"}, {"&#13;", "\r"}, {"&#32;", " "},
		{"&#x41;", "A"}, {"&#x00000041;", "A"}, {"&#x9;", "\t"}, {"&#xa;", "\n"}, {"&#xD;", "\r"}, {"&#x20;", " "},
		{"&#60;", "<"}, {"&#38;", "&"}, {"&#x22;", "\""}, {"&#39;", "'"},
		{"&#xe9;", "\u00e9"}, {"&#xE9;", "\u00e9"}, {"&#xabcde;", "\U000abcde"}, {"&#xABCDF;", "\U000abcdf"},
		{"&#xd7ff;", "\ud7ff"}, {"&#xe000;", "\ue000"}, {"&#xfffd;", "\ufffd"}, {"&#x10000;", "\U00010000"},
		{"&#x10ffff;", "\U0010ffff"}, {"&#1114111;", "\U0010ffff"}, {"&#x0010FFFF;", "\U0010ffff"},
		{"&amp;lt;", "&lt;"}, {"&#38;#60;", "&#60;"}, {"&amp;&amp;", "&&"}, {"&lt;;", "<;"},
	}
	for _, c := range cases {
		wantMarks(t, c.s, text(0, c.means))
		wantMarks(t, "x"+c.s+"y", text(0, "x"+c.means+"y"))
		wantMarks(t, `<a b="`+c.s+`">`, start(0, "a", attr(3, "b", c.means)))
		wantMarks(t, `<a b='1`+c.s+`2'/>`, empty(0, "a", attr(3, "b", "1"+c.means+"2")))
	}
}

// P8.1: a & that begins no reference, in texts and values.
func TestNoReferences(t *testing.T) {
	cases := []string{
		"&", "&;", "& ", "&&", "&&amp;", "& amp;", "&amp ;", "&amp", "&am;", "&amp,", "&AMP;", "&Lt;", "&ltt;", "&l&t;", "&nbsp;", "&a;",
		"&#", "&#;", "&# 65;", "&#65 ;", "&#65", "&#+65;", "&#-65;", "&#6_5;", "&#a;", "&#6a;", "&#000000065;", "&#x000000041;",
		"&#x", "&#x;", "&#X41;", "&#x4g;", "&#x+41;", "&#x-41;", "&#x4_1;", "&#x 41;", "&#x41", "&#0x41;", "&#x0x41;", "&#xx;",
		"&#0;", "&#x0;", "&#1;", "&#8;", "&#11;", "&#12;", "&#14;", "&#31;", "&#x1f;",
		"&#xd800;", "&#xdfff;", "&#55296;", "&#xfffe;", "&#xffff;", "&#65535;", "&#x110000;", "&#1114112;",
		"&#99999999;", "&#x7fffffff;", "&#x80000041;", "&#xffffffff;", "&#x100000041;", "&#4294967361;", "&#18446744073709551681;",
		"&#\u0661;", "&\u00e9;", "&#x\uff11;",
	}
	for _, s := range cases {
		wantFault(t, s, 0, api.ErrEntity)
		wantFault(t, "x&lt;"+s, 5, api.ErrEntity)
		wantFault(t, s+"<a>", 0, api.ErrEntity)
		wantFault(t, "<a>"+s+"</a>", 3, api.ErrEntity)
		wantFault(t, `<a b="`+s, 6, api.ErrEntity)
		wantFault(t, `<a b="`+s+`">`, 6, api.ErrEntity)
		wantFault(t, `<a b='1`+s+`'/>;`, 7, api.ErrEntity)
	}
	wantFault(t, `<a b="&lt<">;`, 6, api.ErrEntity)
	wantFault(t, "&l<t;", 0, api.ErrEntity)
}

// P8.1: what names are made of.
func TestNames(t *testing.T) {
	for _, n := range []string{
		"a", "Z", "_", ":", "::", "a:b", ":a", "a:", "a1", "a-", "a.", "a-b.c_d:e0", "\u00e9", "\u0080", "\u00d7", "\u2028", "\ufeff",
		"\U0001f600", "a\u00a0", "A9\u00e9:z", strings.Repeat("n", 1000),
	} {
		wantMarks(t, "<"+n+">", start(0, n))
		wantMarks(t, "<"+n+"/>", empty(0, n))
		wantMarks(t, "</"+n+">", end(0, n))
		wantMarks(t, "<x "+n+"=''>", start(0, "x", attr(3, n, "")))
	}
	for _, c := range "0-.;!\"#$%&'()*+,=?@[\\]^`{|}~\x7f" {
		wantFault(t, "<"+string(c)+"a>", 1, api.ErrMarkup)
		wantFault(t, "</"+string(c)+"a>", 2, api.ErrMarkup)
		wantFault(t, "<x "+string(c)+"a=''>", 3, api.ErrMarkup)
	}
	for _, c := range ";!\"#$%&'()*+,=?@[\\]^`{|}~<\x7f" {
		wantFault(t, "<a"+string(c)+">", 2, api.ErrMarkup)
		wantFault(t, "</a"+string(c)+">", 3, api.ErrMarkup)
	}
}

// P8.1: tags that begin, with white wherever it may stand.
func TestStartTags(t *testing.T) {
	wantMarks(t, "<a >", start(0, "a"))
	wantMarks(t, "<a \t\r\n>", start(0, "a"))
	wantMarks(t, "<a />", empty(0, "a"))
	wantMarks(t, "<a\r\n/>", empty(0, "a"))
	wantMarks(t, `<a b="1"/>`, empty(0, "a", attr(3, "b", "1")))
	wantMarks(t, `<a b="1" />`, empty(0, "a", attr(3, "b", "1")))
	wantMarks(t, "x<a\tb\r\n=\n\t'1'\r c=\"2\"\n>y", text(0, "x"), start(1, "a", attr(4, "b", "1"), attr(15, "c", "2")), text(22, "y"))
	wantMarks(t, "<\u00e9 \u00e9='\u00e9' b=''>", start(0, "\u00e9", attr(4, "\u00e9", "\u00e9"), attr(12, "b", "")))
	wantMarks(t, `<a b="1" b="2">`, start(0, "a", attr(3, "b", "1"), attr(9, "b", "2")))
	wantMarks(t, `<p:a xmlns:p="u" :="v">`, start(0, "p:a", attr(5, "xmlns:p", "u"), attr(17, ":", "v")))
	wantMarks(t, "<a><a/><a/>", start(0, "a"), empty(3, "a"), empty(7, "a"))
}

// P8.1: the first byte that can't stand in a tag that begins.
func TestWrongStartTags(t *testing.T) {
	cases := []struct {
		s  string
		at int
	}{
		{"< a>", 1}, {"<>", 1}, {"< ", 1}, {"<<a>", 1}, {"<1>", 1}, {"x<&amp;>", 2}, {"<=", 1}, {"<\n", 1},
		{"<a/ >", 3}, {"<a//>", 3}, {"<a/a>", 3}, {"<a/<", 3}, {"<a /b='1'>", 4}, {"<a / >", 4},
		{"<a<", 2}, {"<a <b>", 3}, {"<a=", 2}, {"<a='1'>", 2}, {"<a =", 3}, {"<a '1'>", 3}, {"<a\"", 2}, {"<a 1=''>", 3}, {"<a .", 3},
		{"<a b>", 4}, {"<a b/>", 4}, {"<a b >", 5}, {"<a b c='1'>", 5}, {"<a b'1'>", 4}, {"<a b<", 4}, {"<a b&", 4},
		{"<a b=1>", 5}, {"<a b=>", 5}, {"<a b= >", 6}, {"<a b==''>", 5}, {"<a b=/>", 5}, {"<a b=<", 5}, {"<a b=&quot;1&quot;>", 5}, {"<a b=x", 5},
		{"<a b='<'>", 6}, {"<a b=\"1<2\">", 7}, {"<a b='<", 6}, {"<a b='1' c='2<", 13}, {"<a b='&lt;<'", 10},
		{"<a b='1'c='2'>", 8}, {"<a b='1''2'>", 8}, {"<a b='1'\"", 8}, {"<a b='1'=", 8}, {"<a b='1'<", 8}, {"<a b='1'&", 8}, {"<a b='1'\u00e9=''>", 8},
		{"<a b='1' 'c'>", 9}, {"<a b='1' =", 9}, {"<a b='1' <", 9}, {"<a b='1'/ >", 9}, {"<a b='1' / >", 10},
		{"<a\u00e9 \u00e9=\u00e9>", 8}, {"<a b='1' c>", 10},
	}
	for _, c := range cases {
		wantFault(t, c.s, c.at, api.ErrMarkup)
		wantFault(t, "t<x></x>"+c.s+"<", c.at+8, api.ErrMarkup)
	}
}

// P8.1: tags that end.
func TestEndTags(t *testing.T) {
	wantMarks(t, "</a >", end(0, "a"))
	wantMarks(t, "x</p:a \t\r\n>y", text(0, "x"), end(1, "p:a"), text(11, "y"))
	for _, c := range []struct {
		s  string
		at int
	}{
		{"</ a>", 2}, {"</>", 2}, {"<//a>", 2}, {"</1>", 2}, {"</<", 2}, {"</&", 2},
		{"</a b>", 4}, {"</a/>", 3}, {"</a />", 4}, {"</a<", 3}, {"</a <", 4}, {"</a='1'>", 3}, {"</a b='1'>", 4}, {"</a\"", 3},
	} {
		wantFault(t, c.s, c.at, api.ErrMarkup)
		wantFault(t, "<a>"+c.s, c.at+3, api.ErrMarkup)
	}
}

// P8.1: each place at which a document can end within a tag.
func TestUnendedTags(t *testing.T) {
	for _, s := range []string{
		"<a b='1' c = \"&lt;2\" \r\n/>", "<\u00e9 \u00e9='x>y/>' >", "</p:a \t>", "<a/>", "<:a\n:b=''>",
	} {
		for n := 1; n < len(s); n++ {
			cut := s[:n]
			switch {
			case !validRunes(cut):
				wantFault(t, cut, n-1, api.ErrUtf)
			case strings.HasSuffix(cut, "&") || strings.HasSuffix(cut, "&l") || strings.HasSuffix(cut, "&lt"):
				wantFault(t, cut, strings.LastIndex(cut, "&"), api.ErrEntity)
			default:
				wantFault(t, cut, 0, api.ErrUnended)
				wantFault(t, "t<!-- -->"+cut, 9, api.ErrUnended)
			}
		}
	}
}

func validRunes(s string) bool {
	return strings.ToValidUTF8(s, "") == s
}

// P8.1: in a value white is a blank, line ends are one, and what comes by a
// reference stays.
func TestValues(t *testing.T) {
	cases := []struct{ s, want string }{
		{"", ""}, {" ", " "}, {"  1  2  ", "  1  2  "}, {"1\t2", "1 2"}, {"1\n2", "1 2"}, {"1\r2", "1 2"}, {"1\r\n2", "1 2"},
		{"\n\r", "  "}, {"\r\r\n\n", "   "}, {"\t\t", "  "}, {"\r", " "}, {"\r\n", " "},
		{"&#9;&#10;&#13;&#32;", "\t\n\r "}, {"&#13;\n", "\r "}, {"\r&#10;", " \n"}, {"&#13;&#10;", "\r\n"}, {"\t&#9;", " \t"},
		{">", ">"}, {"/>", "/>"}, {"]]>", "]]>"}, {"a=b", "a=b"}, {"\u00e9\u00a0\u2028\u0085", "\u00e9\u00a0\u2028\u0085"}, {"-->", "-->"}, {";", ";"},
	}
	for _, c := range cases {
		wantMarks(t, `<a b="`+c.s+`">`, start(0, "a", attr(3, "b", c.want)))
		wantMarks(t, `<a b='`+c.s+`'>`, start(0, "a", attr(3, "b", c.want)))
	}
	wantMarks(t, `<a b="'" c='"'>`, start(0, "a", attr(3, "b", "'"), attr(9, "c", `"`)))
	wantFault(t, `<a b="'>`, 0, api.ErrUnended)
	wantFault(t, `<a b='">`, 0, api.ErrUnended)
}

// P8.1: of several faults the one that is met first.
func TestFirstFault(t *testing.T) {
	wantFault(t, "&x;<", 0, api.ErrEntity)
	wantFault(t, "<1&x;", 1, api.ErrMarkup)
	wantFault(t, "<a b='&x;'<", 6, api.ErrEntity)
	wantFault(t, "<a b='<&x;", 6, api.ErrMarkup)
	wantFault(t, "<a b='1' &x;", 9, api.ErrMarkup)
	wantFault(t, "<!-- & <", 0, api.ErrUnended)
	wantFault(t, "<a b='1' c='&x;", 12, api.ErrEntity)
	wantFault(t, "<a></a><b &", 10, api.ErrMarkup)
	wantFault(t, "<a>&lt;</a><![CDATA[", 11, api.ErrUnended)
	wantFault(t, "&x;&y;", 0, api.ErrEntity)
}

// P8.1: as many marks as a document can have, and as many attributes.
func TestMany(t *testing.T) {
	n := api.MaxText / 4
	l, at, e := markup.Marks(strings.Repeat("<a/>", n))
	if e != api.OK || at != 0 || len(l) != n || l[n-1].At != 4*(n-1) {
		t.Fatal(len(l), at, e)
	}
	n = (api.MaxText - 3) / 5
	l, at, e = markup.Marks("<a" + strings.Repeat(" b=''", n) + ">")
	if e != api.OK || at != 0 || len(l) != 1 || len(l[0].Attrs) != n || l[0].Attrs[n-1].At != 5*n-2 {
		t.Fatal(len(l), at, e)
	}
	wantFault(t, strings.Repeat("<a>", 20000)+"<", 60000, api.ErrUnended)
	wantFault(t, strings.Repeat("&lt;", 16000)+"&", 64000, api.ErrEntity)
	wantFault(t, "&#"+strings.Repeat("0", 65000)+"65;", 0, api.ErrEntity)
}

// P8.2: what is written for texts and values.
func TestWritten(t *testing.T) {
	cases := []struct{ s, escaped, quoted string }{
		{"", "", `""`},
		{"abc", "abc", `"abc"`},
		{"&", "&amp;", `"&amp;"`},
		{"<", "&lt;", `"&lt;"`},
		{">", "&gt;", `">"`},
		{"\"", "\"", `"&quot;"`},
		{"'", "'", `"'"`},
		{"\t", "\t", `"&#9;"`},
		{"\n", "\n", `"&#10;"`},
		{"\r", "&#13;", `"&#13;"`},
		{"\r\n", "&#13;\n", `"&#13;&#10;"`},
		{" ", " ", `" "`},
		{"&amp;", "&amp;amp;", `"&amp;amp;"`},
		{"a<b>&\r\"", "a&lt;b&gt;&amp;&#13;\"", `"a&lt;b>&amp;&#13;&quot;"`},
		{"\u00e9<\U0001f600", "\u00e9&lt;\U0001f600", "\"\u00e9&lt;\U0001f600\""},
		{"\x00\x0b;", "\x00\x0b;", "\"\x00\x0b;\""},
		{"\xff&\xc3", "\xff&amp;\xc3", "\"\xff&amp;\xc3\""},
	}
	for _, c := range cases {
		if got := markup.Escape(c.s); got != c.escaped {
			t.Errorf("Escape(%q): %q, want %q", c.s, got, c.escaped)
		}
		if got := markup.Quote(c.s); got != c.quoted {
			t.Errorf("Quote(%q): %q, want %q", c.s, got, c.quoted)
		}
	}
}

// P8.2: each byte alone, and all of them in a row.
func TestWrittenBytes(t *testing.T) {
	texts := map[byte]string{'&': "&amp;", '<': "&lt;", '>': "&gt;", 13: "&#13;"}
	values := map[byte]string{'&': "&amp;", '<': "&lt;", '"': "&quot;", 9: "&#9;", 10: "&#10;", 13: "&#13;"}
	told := func(m map[byte]string, c byte) string {
		if x, ok := m[c]; ok {
			return x
		}
		return string([]byte{c})
	}
	var all, escaped, quoted string
	for i := range 256 {
		c := byte(i)
		s := string([]byte{c})
		if got := markup.Escape(s); got != told(texts, c) {
			t.Errorf("Escape(%q): %q", s, got)
		}
		if got := markup.Quote(s); got != `"`+told(values, c)+`"` {
			t.Errorf("Quote(%q): %q", s, got)
		}
		all, escaped, quoted = all+s, escaped+told(texts, c), quoted+told(values, c)
	}
	if markup.Escape(all) != escaped || markup.Quote(all) != `"`+quoted+`"` {
		t.Error("all bytes in a row")
	}
	long := strings.Repeat("&", 1<<20)
	if markup.Escape(long) != strings.Repeat("&amp;", 1<<20) {
		t.Error("a long text")
	}
}

// wantAgain checks P8.3 of a text of characters.
func wantAgain(t *testing.T, s string) {
	t.Helper()
	if s == "" {
		wantMarks(t, markup.Escape(s))
	} else {
		wantMarks(t, markup.Escape(s), text(0, s))
	}
	q := markup.Quote(s)
	wantMarks(t, "<a b="+q+">", start(0, "a", attr(3, "b", s)))
	wantMarks(t, "<a b = "+q+"\nc="+q+"/>", empty(0, "a", attr(3, "b", s), attr(8+len(q), "c", s)))
}

// P8.3: what is written is read again, each two characters of some, and each
// character of all.
func TestReadAgain(t *testing.T) {
	some := []rune("\t\n\r !\"#&'()-/09:;<=>?A[]_alx\x7f\u0080\u00e9\u2028\ufeff\ufffd\U00010000\U0010ffff")
	for _, a := range some {
		wantAgain(t, string(a))
		for _, b := range some {
			wantAgain(t, string(a)+string(b))
		}
	}
	for _, s := range []string{"", "\r\n\r\r\n\n", "&amp;&#13;&lt;", "]]>", "<![CDATA[x]]>", "<!-- -->", "<?xml ?>", "</a>", "  a  "} {
		wantAgain(t, s)
	}
	var b strings.Builder
	for r := rune(0); r <= 0x10ffff; r++ {
		if r >= 0xd800 && r <= 0xdfff || r < 32 && r != 9 && r != 10 && r != 13 || r == 0xfffe || r == 0xffff {
			continue
		}
		b.WriteRune(r)
		if b.Len() > 4000 || r == 0x10ffff {
			wantAgain(t, b.String())
			b.Reset()
		}
	}
}

// Rule 8: the same answer each time, and none of one call's memory in another
// one's.
func TestNewMemory(t *testing.T) {
	const s = "<a b='1' c='2'>x</a>"
	first, _, _ := markup.Marks(s)
	first[0].Name, first[0].Attrs[1].Value = "z", "z"
	clear(first[1:])
	_ = append(first[0].Attrs[:1], api.Attr{})
	wantMarks(t, s, start(0, "a", attr(3, "b", "1"), attr(9, "c", "2")), text(15, "x"), end(16, "a"))
}
