package spaces_test

import (
	"fmt"
	"reflect"
	"strconv"
	"strings"
	"testing"

	"pavane/api"
	"pavane/spaces"
	"pavane/tree"
)

const xmlSpace = "http://www.w3.org/XML/1998/namespace"

func elem(at, up int, name string, attrs ...api.Attr) api.Elem {
	return api.Elem{Name: name, Attrs: attrs, Up: up, At: at}
}

func attr(at int, name, value string) api.Attr {
	return api.Attr{Name: name, Value: value, At: at}
}

func in(space, name string, at, up int, attrs ...api.SpaceAttr) api.SpaceElem {
	return api.SpaceElem{Space: space, Name: name, Attrs: attrs, Up: up, At: at}
}

func with(space, name, value string, at int) api.SpaceAttr {
	return api.SpaceAttr{Space: space, Name: name, Value: value, At: at}
}

// same holds two lists against each other; nil and empty are one.
func same(a, b []api.SpaceElem) bool {
	if len(a) != len(b) {
		return false
	}
	for i := range a {
		x, y := a[i], b[i]
		if len(x.Attrs) == 0 && len(y.Attrs) == 0 {
			x.Attrs, y.Attrs = nil, nil
		}
		if !reflect.DeepEqual(x, y) {
			return false
		}
	}
	return true
}

// copied answers the same list in other memory.
func copied(l []api.Elem) []api.Elem {
	var c []api.Elem
	for _, x := range l {
		x.Attrs = append([]api.Attr(nil), x.Attrs...)
		c = append(c, x)
	}
	return c
}

// parsed answers the elements of a document.
func parsed(t testing.TB, s string) []api.Elem {
	t.Helper()
	l, at, e := tree.Parse(s)
	if e != api.OK {
		t.Fatalf("Parse(%.60q): %d, %d", s, at, e)
	}
	return l
}

func wantElems(t *testing.T, l []api.Elem, want ...api.SpaceElem) {
	t.Helper()
	got, at, e := spaces.Resolve(l)
	if e != api.OK || at != 0 || !same(got, want) {
		t.Errorf("Resolve(%.300q): %.300q, %d, %d, want %.300q", fmt.Sprint(l), fmt.Sprint(got), at, e, fmt.Sprint(want))
	}
}

func wantFault(t *testing.T, at int, e api.Errno, l ...api.Elem) {
	t.Helper()
	got, gotAt, gotE := spaces.Resolve(l)
	if gotE != e || gotAt != at || len(got) != 0 {
		t.Errorf("Resolve(%.300q): %d elements, %d, %d, want %d, %d", fmt.Sprint(l), len(got), gotAt, gotE, at, e)
	}
}

// P10.1: the chapter's examples.
func TestExamples(t *testing.T) {
	wantElems(t, parsed(t, `<a xmlns="u" xmlns:p="v" p:k="1" k="2"><p:b/></a>`),
		in("u", "a", 0, -1, with("v", "k", "1", 25), with("", "k", "2", 33)),
		in("v", "b", 39, 0))
	wantFault(t, 0, api.ErrSpace, parsed(t, `<p:a/>`)...)
	wantFault(t, 34, api.ErrTwice, parsed(t, `<a xmlns:p="u" xmlns:q="u" p:k="" q:k=""/>`)...)
}

// P10.1: the first element is within none, each other one within one ahead.
func TestForm(t *testing.T) {
	for up := -4; up < 4; up++ {
		if up != -1 {
			wantFault(t, 0, api.ErrForm, elem(7, up, "a"))
		}
		second := []api.Elem{elem(7, -1, "a"), elem(8, up, "b")}
		third := []api.Elem{elem(7, -1, "a"), elem(8, 0, "b"), elem(9, up, "c")}
		if up == 0 {
			wantElems(t, second, in("", "a", 7, -1), in("", "b", 8, 0))
		} else {
			wantFault(t, 0, api.ErrForm, second...)
		}
		if up == 0 || up == 1 {
			wantElems(t, third, in("", "a", 7, -1), in("", "b", 8, 0), in("", "c", 9, up))
		} else {
			wantFault(t, 0, api.ErrForm, third...)
		}
	}
	wantFault(t, 0, api.ErrForm, elem(7, -1, "a"), elem(8, 1<<62, "b"))
	wantFault(t, 0, api.ErrForm, elem(7, -1, "a"), elem(8, -1<<63, "b"))
	wantElems(t, nil)
	wantElems(t, []api.Elem{})
}

// P10.1: an element may be within any one ahead, be that over in a document or
// not, and what holds there holds.
func TestAnyPlaceAhead(t *testing.T) {
	l := []api.Elem{
		elem(0, -1, "a"),
		elem(1, 0, "b", attr(2, "xmlns:p", "u"), attr(3, "xmlns", "d")),
		elem(4, 0, "c", attr(5, "xmlns:p", "v")),
		elem(6, 1, "p:d"),
		elem(7, 2, "p:e"),
		elem(8, 1, "f"),
		elem(9, 2, "g"),
		elem(10, 3, "p:h"),
	}
	wantElems(t, l,
		in("", "a", 0, -1), in("d", "b", 1, 0), in("", "c", 4, 0), in("u", "d", 6, 1), in("v", "e", 7, 2),
		in("d", "f", 8, 1), in("", "g", 9, 2), in("u", "h", 10, 3))
	wantFault(t, 11, api.ErrSpace, append(l, elem(11, 0, "p:i"))...)
}

// P10.1: the form of the list is looked at ahead of all names.
func TestFormFirst(t *testing.T) {
	wantFault(t, 0, api.ErrForm, elem(7, 0, ""))
	wantFault(t, 0, api.ErrForm, elem(7, -1, ":"), elem(8, -1, "b"))
	wantFault(t, 0, api.ErrForm, elem(7, -1, "p:a", attr(8, "", "")), elem(9, 0, "b"), elem(10, 2, "c"))
}

// P10.1: which names are qualified.
func TestNames(t *testing.T) {
	for _, name := range []string{"", ":", "::", ":a", "a:", "a:b:c", "a::b", ":a:b", "a:b:", "xmlns:", "xml:", "xmlns:a:b", "xml:a:b"} {
		wantFault(t, 5, api.ErrSpace, elem(5, -1, name, attr(6, "xmlns:a", "u")))
		wantFault(t, 6, api.ErrSpace, elem(5, -1, "e", attr(6, name, "u"), attr(7, "xmlns:a", "u")))
	}
	for _, name := range []string{"a", "xmlns", "xml", "\u00e9", "1", " ", "<", "\xff", strings.Repeat("n", 1000)} {
		wantElems(t, []api.Elem{elem(5, -1, name)}, in("", name, 5, -1))
		wantElems(t, []api.Elem{elem(5, -1, name, attr(6, "xmlns", "u"))}, in("u", name, 5, -1))
		wantElems(t, []api.Elem{elem(5, -1, "p:"+name, attr(6, "xmlns:p", "u"))}, in("u", name, 5, -1))
		wantElems(t, []api.Elem{elem(5, -1, "e", attr(6, "xmlns:p", "u"), attr(7, "p:"+name, "1"))},
			in("", "e", 5, -1, with("u", name, "1", 7)))
		if name != "xmlns" {
			wantElems(t, []api.Elem{elem(5, -1, "e", attr(6, name, "1"))}, in("", "e", 5, -1, with("", name, "1", 6)))
		}
		if name != "xmlns" && name != "xml" {
			wantElems(t, []api.Elem{elem(5, -1, name+":a", attr(6, "xmlns:"+name, "u"))}, in("u", "a", 5, -1))
		}
	}
}

// P10.1: an element's prefix isn't xmlns, whatever is declared.
func TestElementPrefixXmlns(t *testing.T) {
	wantFault(t, 5, api.ErrSpace, elem(5, -1, "xmlns:a"))
	wantFault(t, 5, api.ErrSpace, elem(5, -1, "xmlns:a", attr(6, "xmlns", "u")))
	wantFault(t, 5, api.ErrSpace, elem(5, -1, "xmlns:a", attr(6, "xmlns:xmlns", "u")))
	wantElems(t, []api.Elem{elem(5, -1, "Xmlns:a", attr(6, "xmlns:Xmlns", "u"))}, in("u", "a", 5, -1))
}

// P10.1: which prefixes are declared, and that their values aren't empty.
func TestDeclarations(t *testing.T) {
	for _, value := range []string{"", "u", xmlSpace, "http://www.w3.org/2000/xmlns/"} {
		wantFault(t, 6, api.ErrSpace, elem(5, -1, "a", attr(6, "xmlns:xml", value)))
		wantFault(t, 6, api.ErrSpace, elem(5, -1, "a", attr(6, "xmlns:xmlns", value)))
		wantElems(t, []api.Elem{elem(5, -1, "a", attr(6, "xmlns", value))}, in(value, "a", 5, -1))
	}
	wantFault(t, 6, api.ErrSpace, elem(5, -1, "a", attr(6, "xmlns:p", "")))
	wantFault(t, 6, api.ErrSpace, elem(5, -1, "a", attr(6, "xmlns:p", ""), attr(7, "xmlns:p", "u")))
	wantFault(t, 7, api.ErrSpace, elem(5, -1, "a", attr(6, "xmlns:p", "u"), attr(7, "xmlns:p", "")))
	wantFault(t, 9, api.ErrSpace, elem(5, -1, "a", attr(6, "xmlns:p", "u")), elem(8, 0, "b", attr(9, "xmlns:p", "")))
	for _, value := range []string{"u", " ", xmlSpace, "http://www.w3.org/2000/xmlns/", "\xff"} {
		wantElems(t, []api.Elem{elem(5, -1, "p:a", attr(6, "xmlns:p", value))}, in(value, "a", 5, -1))
	}
	for _, prefix := range []string{"XML", "xmlns1", "xm", "xmlspace", "xmln"} {
		wantElems(t, []api.Elem{elem(5, -1, prefix+":a", attr(6, "xmlns:"+prefix, "u"))}, in("u", "a", 5, -1))
	}
	wantElems(t, []api.Elem{elem(5, -1, "a", attr(6, "Xmlns", "u"), attr(7, "xmlnsx", "v"))},
		in("", "a", 5, -1, with("", "Xmlns", "u", 6), with("", "xmlnsx", "v", 7)))
}

// P10.1: the default space is one of elements alone, and can be none again.
func TestDefault(t *testing.T) {
	wantElems(t, parsed(t, "<a k='1'><b xmlns='u' k='2'><c/><d xmlns='' k='3'><e/></d><f xmlns='v'/><g/></b><h/></a>"),
		in("", "a", 0, -1, with("", "k", "1", 3)),
		in("u", "b", 9, 0, with("", "k", "2", 22)),
		in("u", "c", 28, 1),
		in("", "d", 32, 1, with("", "k", "3", 44)),
		in("", "e", 50, 3),
		in("v", "f", 58, 1),
		in("u", "g", 72, 1),
		in("", "h", 80, 0))
}

// P10.1: a prefix's declaration holds for its element and all within, but where
// an inner one declares it again.
func TestPrefixes(t *testing.T) {
	wantElems(t, parsed(t, "<p:a xmlns:p='u'><p:b p:k='1'/><p:c xmlns:p='v' p:k='2'><p:d p:k='3'/></p:c><p:e/><q:f xmlns:q='u'><p:g q:k='4'/></q:f></p:a>"),
		in("u", "a", 0, -1),
		in("u", "b", 17, 0, with("u", "k", "1", 22)),
		in("v", "c", 31, 0, with("v", "k", "2", 48)),
		in("v", "d", 56, 2, with("v", "k", "3", 61)),
		in("u", "e", 76, 0),
		in("u", "f", 82, 0),
		in("u", "g", 99, 5, with("u", "k", "4", 104)))
	wantFault(t, 19, api.ErrSpace, parsed(t, "<a><b xmlns:p='u'/><p:c/></a>")...)
	wantFault(t, 22, api.ErrSpace, parsed(t, "<a><b xmlns:p='u'/><c p:k=''/></a>")...)
	wantFault(t, 3, api.ErrSpace, parsed(t, "<a><p:b><c xmlns:p='u'/></p:b></a>")...)
}

// P10.1: of several declarations of the same at one element the last one holds.
func TestLastHolds(t *testing.T) {
	wantElems(t, []api.Elem{elem(0, -1, "a", attr(1, "xmlns", "u"), attr(2, "xmlns", "v"))}, in("v", "a", 0, -1))
	wantElems(t, []api.Elem{elem(0, -1, "a", attr(1, "xmlns", "u"), attr(2, "xmlns", ""))}, in("", "a", 0, -1))
	wantElems(t, []api.Elem{
		elem(0, -1, "p:a", attr(1, "xmlns:p", "u"), attr(2, "p:k", "1"), attr(3, "xmlns:p", "v"), attr(4, "xmlns:p", "w")),
		elem(5, 0, "p:b"),
	}, in("w", "a", 0, -1, with("w", "k", "1", 2)), in("w", "b", 5, 0))
}

// P10.1: a declaration holds for the attributes ahead of it, too.
func TestDeclaredBehind(t *testing.T) {
	wantElems(t, parsed(t, "<p:a p:k='1' q:k='2' xmlns:q='v' xmlns:p='u'/>"),
		in("u", "a", 0, -1, with("u", "k", "1", 5), with("v", "k", "2", 13)))
}

// P10.1: the prefix xml means its space everywhere.
func TestXml(t *testing.T) {
	wantElems(t, parsed(t, "<xml:a xml:id='1' id='2'><xml:b xmlns='u'/><c xmlns:p='v' xml:lang=''/></xml:a>"),
		in(xmlSpace, "a", 0, -1, with(xmlSpace, "id", "1", 7), with("", "id", "2", 18)),
		in(xmlSpace, "b", 25, 0),
		in("", "c", 43, 0, with(xmlSpace, "lang", "", 58)))
	wantFault(t, 3, api.ErrTwice, elem(0, -1, "a", attr(1, "xml:id", ""), attr(2, "xmlns:p", xmlSpace), attr(3, "p:id", "")))
}

// P10.1: attributes of the same space and local name.
func TestTwice(t *testing.T) {
	uu := []api.Attr{attr(1, "xmlns:p", "u"), attr(2, "xmlns:q", "u"), attr(3, "xmlns:r", "v"), attr(4, "xmlns", "u")}
	of := func(l ...api.Attr) api.Elem { return elem(0, -1, "a", append(append([]api.Attr(nil), uu...), l...)...) }
	wantFault(t, 6, api.ErrTwice, of(attr(5, "k", "1"), attr(6, "k", "2")))
	wantFault(t, 6, api.ErrTwice, of(attr(5, "p:k", "1"), attr(6, "p:k", "2")))
	wantFault(t, 6, api.ErrTwice, of(attr(5, "p:k", "1"), attr(6, "q:k", "2")))
	wantFault(t, 8, api.ErrTwice, of(attr(5, "p:k", ""), attr(6, "r:k", ""), attr(7, "k", ""), attr(8, "q:k", ""), attr(9, "k", "")))
	wantElems(t, []api.Elem{of(attr(5, "p:k", "1"), attr(6, "q:l", "1"), attr(7, "r:k", "1"), attr(8, "k", "1"), attr(9, "l", "1"))},
		in("u", "a", 0, -1, with("u", "k", "1", 5), with("u", "l", "1", 6), with("v", "k", "1", 7), with("", "k", "1", 8), with("", "l", "1", 9)))
	wantElems(t, []api.Elem{elem(0, -1, "a", attr(1, "k", "")), elem(2, 0, "a", attr(3, "k", ""))},
		in("", "a", 0, -1, with("", "k", "", 1)), in("", "a", 2, 0, with("", "k", "", 3)))
}

// P10.1: space and local name are two, however they would read as one.
func TestSpaceAndNameAreTwo(t *testing.T) {
	wantElems(t, []api.Elem{elem(0, -1, "a", attr(1, "xmlns:p", "u"), attr(2, "xmlns:q", "uk"), attr(3, "p:kk", ""), attr(4, "q:k", ""), attr(5, "ukk", ""))},
		in("", "a", 0, -1, with("u", "kk", "", 3), with("uk", "k", "", 4), with("", "ukk", "", 5)))
}

// P10.1: of several faults at one element the first one is told.
func TestOrderWithin(t *testing.T) {
	ill, bare, lost := attr(2, "a:", ""), attr(3, "xmlns:p", ""), attr(4, "o:k", "")
	k, l := attr(5, "k", ""), attr(6, "k", "")
	wantFault(t, 1, api.ErrSpace, elem(1, -1, ":a", ill, bare))
	wantFault(t, 1, api.ErrSpace, elem(1, -1, "xmlns:a", ill))
	wantFault(t, 2, api.ErrSpace, elem(1, -1, "o:a", ill, bare, lost))
	wantFault(t, 3, api.ErrSpace, elem(1, -1, "o:a", bare, ill, lost))
	wantFault(t, 3, api.ErrSpace, elem(1, -1, "o:a", k, l, lost, bare))
	wantFault(t, 7, api.ErrSpace, elem(1, -1, "o:a", k, l, attr(7, "xmlns:xml", "u")))
	wantFault(t, 1, api.ErrSpace, elem(1, -1, "o:a", lost, k, l))
	wantFault(t, 4, api.ErrSpace, elem(1, -1, "a", lost, k, l))
	wantFault(t, 4, api.ErrSpace, elem(1, -1, "a", k, lost, l))
	wantFault(t, 6, api.ErrTwice, elem(1, -1, "a", k, l, lost))
	wantFault(t, 4, api.ErrSpace, elem(1, -1, "a", lost, lost))
}

// P10.1: of several elements' faults the first one's is told.
func TestOrderAmong(t *testing.T) {
	twice := elem(1, 0, "a", attr(2, "k", ""), attr(3, "k", ""))
	lost := elem(4, 0, "o:a")
	ill := elem(5, 0, "")
	declares := elem(6, 0, "a", attr(7, "xmlns:xml", ""))
	root := elem(0, -1, "r")
	wantFault(t, 3, api.ErrTwice, root, twice, lost, ill, declares)
	wantFault(t, 4, api.ErrSpace, root, lost, ill, declares, twice)
	wantFault(t, 5, api.ErrSpace, root, ill, declares, twice, lost)
	wantFault(t, 7, api.ErrSpace, root, declares, twice, lost, ill)
}

// P10.1: Text, Up, At and values are answered as they are.
func TestAsTheyAre(t *testing.T) {
	wantElems(t, []api.Elem{
		{Name: "a", Text: "x<\xff", Up: -1, At: -7, Attrs: []api.Attr{attr(1<<40, "k", "\x00"), attr(-1, "l", "a:b")}},
		{Name: "b", Text: "y", Up: 0, At: -7},
	},
		api.SpaceElem{Name: "a", Text: "x<\xff", Up: -1, At: -7, Attrs: []api.SpaceAttr{with("", "k", "\x00", 1<<40), with("", "l", "a:b", -1)}},
		api.SpaceElem{Name: "b", Text: "y", Up: 0, At: -7})
	wantFault(t, -3, api.ErrSpace, elem(-3, -1, ":"))
	wantFault(t, -4, api.ErrSpace, elem(1, -1, "a", attr(-4, ":", "")))
	wantFault(t, -5, api.ErrTwice, elem(1, -1, "a", attr(2, "k", ""), attr(-5, "k", "")))
}

// P10.2: prefixes named anew change nothing.
func TestNamedAnew(t *testing.T) {
	forms := []string{
		"<P:a xmlns:P='u' xmlns:Q='v' xmlns='d' P:k='1' Q:k='2' k='3'><b/><Q:c xmlns:Q='w' Q:k=''/><Q:d xml:id=''/></P:a>",
		"<P:a xmlns:P='u' xmlns:Q='u' P:k='1' Q:k='2'/>",
		"<a><P:b xmlns:P='u' xmlns:Q='v'><Q:c/></P:b><P:d/></a>",
		"<a xmlns:P='u'><b xmlns:Q='u' P:k='' Q:k=''/></a>",
		"<a xmlns:P='u'><b Q:k=''/></a>",
		"<a xmlns:P='u' xmlns:Q=''/>",
	}
	for _, form := range forms {
		named := func(p, q string) string {
			return strings.NewReplacer("P:", p+":", ":P", ":"+p, "Q:", q+":", ":Q", ":"+q).Replace(form)
		}
		want, wantAt, wantE := spaces.Resolve(parsed(t, named("p", "q")))
		for _, names := range [][2]string{{"q", "p"}, {"a", "k"}, {"z", "_"}, {"X", "x"}} {
			got, at, e := spaces.Resolve(parsed(t, named(names[0], names[1])))
			if e != wantE || at != wantAt || !same(got, want) {
				t.Errorf("%q with %q: %v, %d, %d, want %v, %d, %d", form, names, got, at, e, want, wantAt, wantE)
			}
		}
	}
}

// P10.3: what is handed in stays, its spare room too.
func TestHandedIn(t *testing.T) {
	for _, s := range []string{
		"<a xmlns='u' xmlns:p='v' p:k='1' k='2'><p:b l=''/><c xmlns:p='w' p:k=''>x</c></a>",
		"<a xmlns:p='u' p:k='1'><b xmlns:q='u' p:k='' q:k=''/></a>",
		"<a k='1'><b o:k=''/></a>",
	} {
		l := parsed(t, s)
		spare := append(make([]api.Elem, 0, len(l)+3), l...)
		whole := spare[:len(l)+3]
		for i := range whole {
			whole[i].Attrs = append(make([]api.Attr, 0, len(whole[i].Attrs)+3), whole[i].Attrs...)
			rest := whole[i].Attrs[len(whole[i].Attrs):cap(whole[i].Attrs)]
			for j := range rest {
				rest[j] = attr(77, "spare", "spare")
			}
		}
		whole[len(l)] = elem(88, 99, "spare")
		var before [][]api.Attr
		for _, x := range whole {
			before = append(before, append([]api.Attr(nil), x.Attrs[:cap(x.Attrs)]...))
		}
		list := copied(whole)
		spaces.Resolve(spare)
		for i, x := range whole {
			if !reflect.DeepEqual(append([]api.Attr(nil), x.Attrs[:cap(x.Attrs)]...), before[i]) {
				t.Errorf("%q: the attributes of %d were changed", s, i)
			}
		}
		if !reflect.DeepEqual(copied(whole), list) {
			t.Errorf("%q: the list was changed", s)
		}
	}
}

// P10.3: what is answered is new memory, each list its own.
func TestNewMemory(t *testing.T) {
	l := parsed(t, "<a xmlns='u' xmlns:p='v' p:k='1' k='2'><p:b l=''/><c m='' n=''/></a>")
	want, _, _ := spaces.Resolve(l)
	first, _, _ := spaces.Resolve(l)
	second, _, _ := spaces.Resolve(l)
	for i := range first {
		_ = append(first[i].Attrs, with("x", "x", "x", 1))
		for j := range first[i].Attrs {
			first[i].Attrs[j] = with("x", "x", "x", 1)
		}
		if i+1 < len(first) && !same(first[i+1:], want[i+1:]) {
			t.Errorf("the lists of %d and of one behind it share memory", i)
		}
		first[i] = in("x", "x", 1, 1)
	}
	_ = append(first, in("x", "x", 1, 1))
	for i := range l {
		for j := range l[i].Attrs {
			l[i].Attrs[j] = attr(1, "x", "x")
		}
		l[i] = elem(1, 1, "x")
	}
	if !same(second, want) {
		t.Errorf("%v, want %v", second, want)
	}
}

// P10.1 (P1): lists far greater than documents have are answered in time, and
// without memory for what holds at each element.
func TestGreat(t *testing.T) {
	const n = 2500
	var attrs []api.Attr
	for i := range n {
		attrs = append(attrs, attr(i, "xmlns:p"+strconv.Itoa(i), "u"+strconv.Itoa(i)))
	}
	l := []api.Elem{elem(0, -1, "a", attrs...)}
	var want []api.SpaceElem
	want = append(want, in("", "a", 0, -1))
	for i := range n {
		name := strconv.Itoa(i)
		l = append(l, elem(i, i/7*7, "p"+name+":a", attr(0, "xmlns:q", "v"), attr(1, "p"+name+":k", "")))
		want = append(want, in("u"+name, "a", i, i/7*7, with("u"+name, "k", "", 1)))
	}
	wantElems(t, l, want...)
	var many []api.Attr
	var resolved []api.SpaceAttr
	for i := range 200000 {
		many = append(many, attr(i, "k"+strconv.Itoa(i), ""))
		resolved = append(resolved, with("", "k"+strconv.Itoa(i), "", i))
	}
	wantElems(t, []api.Elem{elem(0, -1, "a", many...)}, in("", "a", 0, -1, resolved...))
	var declarations []api.Attr
	for i := range 200000 {
		declarations = append(declarations, attr(i, "xmlns:p"+strconv.Itoa(i), "u"+strconv.Itoa(i%7)))
	}
	wantElems(t, []api.Elem{elem(0, -1, "p100:a", declarations...)}, in("u2", "a", 0, -1))
	wantFault(t, -9, api.ErrTwice, elem(0, -1, "a", append(many, attr(-9, "k0", ""))...))
}

// P10.1 (P1): elements far within one another.
func TestDeep(t *testing.T) {
	const n = 1 << 16
	space := "u"
	l := []api.Elem{elem(0, -1, "p:a", attr(1, "xmlns:p", space))}
	want := []api.SpaceElem{in(space, "a", 0, -1)}
	for i := range n {
		x := elem(i, i, "p:a")
		if i%100 == 99 {
			space = "u" + strconv.Itoa(i)
			x.Attrs = []api.Attr{attr(1, "xmlns:p", space)}
		}
		l = append(l, x)
		want = append(want, in(space, "a", i, i))
	}
	wantElems(t, l, want...)
}
