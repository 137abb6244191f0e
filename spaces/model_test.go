package spaces_test

import (
	"encoding/xml"
	"fmt"
	"regexp"
	"slices"
	"strconv"
	"strings"
	"testing"

	"pavane/api"
	"pavane/spaces"
	"pavane/tree"
)

// next is a small generator of numbers, the same in each run.
func next(x *uint64) uint32 {
	*x = *x*6364136223846793005 + 1442695040888963407
	return uint32(*x >> 32)
}

func pick(x *uint64, some []string) string {
	return some[next(x)%uint32(len(some))]
}

var qualifiedForm = regexp.MustCompile(`^(?:([^:]+):)?([^:]+)$`)

// modelFind looks from the element at this place outwards for what declares
// the name, the last of an element's ahead of its others.
func modelFind(l []api.Elem, place int, name string) (string, bool) {
	if name == "xmlns:xml" {
		return xmlSpace, true
	}
	for ; place >= 0; place = l[place].Up {
		for _, a := range slices.Backward(l[place].Attrs) {
			if a.Name == name {
				return a.Value, true
			}
		}
	}
	return "", false
}

func isDeclaration(name string) bool {
	return name == "xmlns" || strings.HasPrefix(name, "xmlns:")
}

// modelName answers space, local name and whether there is a space for it.
func modelName(l []api.Elem, place int, name string, element bool) (string, string, bool) {
	m := qualifiedForm.FindStringSubmatch(name)
	if m[1] != "" {
		s, ok := modelFind(l, place, "xmlns:"+m[1])
		return s, m[2], ok
	}
	if element {
		s, _ := modelFind(l, place, "xmlns")
		return s, m[2], true
	}
	return "", m[2], true
}

// modelElem is one element of Resolve, with the first fault of a list of all.
func modelElem(l []api.Elem, place int) (api.SpaceElem, int, api.Errno) {
	x := l[place]
	type fault struct {
		at int
		e  api.Errno
	}
	var faults []fault
	note := func(wrong bool, at int, e api.Errno) {
		if wrong {
			faults = append(faults, fault{at, e})
		}
	}
	isQualified := qualifiedForm.MatchString(x.Name)
	note(!isQualified || strings.HasPrefix(x.Name, "xmlns:"), x.At, 101)
	for _, a := range x.Attrs {
		note(a.Name != "xmlns" && !qualifiedForm.MatchString(a.Name), a.At, 101)
		note(a.Name == "xmlns:xmlns" || a.Name == "xmlns:xml", a.At, 101)
		note(isDeclaration(a.Name) && a.Name != "xmlns" && a.Value == "", a.At, 101)
	}
	if len(faults) > 0 {
		return api.SpaceElem{}, faults[0].at, faults[0].e
	}
	y := api.SpaceElem{Text: x.Text, Up: x.Up, At: x.At}
	var ok bool
	y.Space, y.Name, ok = modelName(l, place, x.Name, true)
	note(!ok, x.At, 101)
	for _, a := range x.Attrs {
		if isDeclaration(a.Name) {
			continue
		}
		b := api.SpaceAttr{Value: a.Value, At: a.At}
		b.Space, b.Name, ok = modelName(l, place, a.Name, false)
		note(!ok, a.At, 101)
		note(slices.ContainsFunc(y.Attrs, func(c api.SpaceAttr) bool { return c.Space == b.Space && c.Name == b.Name }), a.At, 92)
		y.Attrs = append(y.Attrs, b)
	}
	if len(faults) > 0 {
		return api.SpaceElem{}, faults[0].at, faults[0].e
	}
	return y, 0, 0
}

// modelResolve is Resolve, in other words than the program's: nothing is kept
// from element to element.
func modelResolve(l []api.Elem) ([]api.SpaceElem, int, api.Errno) {
	for i, x := range l {
		if i == 0 && x.Up != -1 || i > 0 && (x.Up < 0 || x.Up >= i) {
			return nil, 0, 2
		}
	}
	var all []api.SpaceElem
	for i := range l {
		y, at, e := modelElem(l, i)
		if e != 0 {
			return nil, at, e
		}
		all = append(all, y)
	}
	return all, 0, 0
}

func holdAgainstModel(t *testing.T, l []api.Elem) api.Errno {
	t.Helper()
	before := copied(l)
	got, at, e := spaces.Resolve(l)
	want, wantAt, wantE := modelResolve(before)
	if e != wantE || at != wantAt || !same(got, want) {
		t.Fatalf("Resolve(%+v): %+v, %d, %d, want %+v, %d, %d", l, got, at, e, want, wantAt, wantE)
	}
	if fmt.Sprintf("%+v", copied(l)) != fmt.Sprintf("%+v", before) {
		t.Fatalf("Resolve(%+v) changed it: %+v", before, l)
	}
	return e
}

// P10.1: an element alone, with every name and up to two attributes of some.
func TestModelOneElement(t *testing.T) {
	names := []string{"", ":", "a", "p:a", "q:a", ":a", "a:", "p:a:b", "xmlns", "xmlns:", "xmlns:a", "xml", "xml:a"}
	attrs := []api.Attr{}
	for _, name := range append(names, "xmlns:p", "xmlns:q", "xmlns:xml", "xmlns:xmlns", "k", "p:k", "q:k") {
		attrs = append(attrs, attr(0, name, ""), attr(0, name, "u"))
	}
	for _, name := range names {
		holdAgainstModel(t, []api.Elem{elem(1, -1, name)})
		for _, a := range attrs {
			a.At = 2
			holdAgainstModel(t, []api.Elem{elem(1, -1, name, a)})
			for _, b := range attrs {
				b.At = 3
				holdAgainstModel(t, []api.Elem{elem(1, -1, name, a, b)})
			}
		}
	}
}

// P10.1: an element with two declarations and two others, in all orders.
func TestModelFourAttributes(t *testing.T) {
	declarations := []api.Attr{attr(0, "xmlns:p", "u"), attr(0, "xmlns:p", "v"), attr(0, "xmlns:q", "u"), attr(0, "xmlns:q", xmlSpace), attr(0, "xmlns", "u"), attr(0, "xmlns", "")}
	others := []api.Attr{attr(0, "p:k", "1"), attr(0, "q:k", "2"), attr(0, "k", "3"), attr(0, "xml:k", "4")}
	for _, a := range declarations {
		for _, b := range declarations {
			for _, c := range others {
				for _, d := range others {
					for _, l := range [][]api.Attr{{a, b, c, d}, {c, d, a, b}, {a, c, b, d}, {c, a, d, b}, {a, c, d, b}, {c, a, b, d}} {
						for i := range l {
							l[i].At = i
						}
						holdAgainstModel(t, []api.Elem{elem(9, -1, "p:a", l...)})
						holdAgainstModel(t, []api.Elem{elem(9, -1, "a", l...)})
					}
				}
			}
		}
	}
}

// P10.1: all trees of up to five elements, and what is no tree.
func TestModelUps(t *testing.T) {
	var ups []int
	var grow func(n int)
	grow = func(n int) {
		var l []api.Elem
		for i, up := range ups {
			at := 10 * i
			l = append(l, elem(at, up, []string{"p:a", "a", "p:b"}[i%3], attr(at+1, "xmlns:p", strconv.Itoa(i)), attr(at+2, "xmlns", "d"+strconv.Itoa(i))))
			if i%2 == 1 {
				l[i].Attrs = nil
			}
		}
		holdAgainstModel(t, l)
		if n == 0 {
			return
		}
		for up := -2; up <= len(ups)+1; up++ {
			ups = append(ups, up)
			grow(n - 1)
			ups = ups[:len(ups)-1]
		}
	}
	grow(5)
}

// someElems answers a list of elements, mostly right ones, out of what x tells.
func someElems(x *uint64) []api.Elem {
	prefixes := []string{"", "", "p:", "p:", "q:", "r:", "xml:"}
	locals := []string{"a", "b", "k", "xml"}
	values := []string{"u", "v", "w", xmlSpace}
	var l []api.Elem
	for i := range int(next(x)%9) + 1 {
		e := elem(100*i, i-1, pick(x, prefixes)+pick(x, locals))
		if i > 0 && next(x)%3 > 0 {
			e.Up = int(next(x) % uint32(i))
		}
		for j := range int(next(x) % 5) {
			a := attr(100*i+j+1, pick(x, prefixes)+pick(x, locals), "")
			if next(x)%2 == 0 || i == 0 {
				a = attr(a.At, "xmlns"+pick(x, []string{"", ":p", ":q", ":r"}), pick(x, values))
			}
			e.Attrs = append(e.Attrs, a)
		}
		l = append(l, e)
	}
	return l
}

// spoil does one thing to l that is most often a fault.
func spoil(x *uint64, l []api.Elem) {
	i := next(x) % uint32(len(l))
	names := []string{"", ":", "a:", ":a", "xmlns:p", "xmlns:xml", "xmlns:xmlns", "xmlns:", "o:a", "a:b:c", "xmlns"}
	switch n := len(l[i].Attrs); {
	case next(x)%8 == 0:
		l[i].Up = int(next(x)%12) - 2
	case n == 0 || next(x)%3 == 0:
		l[i].Name = pick(x, names)
	case next(x)%2 == 0:
		l[i].Attrs[next(x)%uint32(n)].Name = pick(x, names)
	default:
		l[i].Attrs[next(x)%uint32(n)].Value = ""
	}
}

// P10.1: lists of elements by chance.
func TestModelLists(t *testing.T) {
	x := uint64(10)
	times := map[api.Errno]int{}
	for range 60000 {
		l := someElems(&x)
		times[holdAgainstModel(t, l)]++
		spoil(&x, l)
		times[holdAgainstModel(t, l)]++
	}
	for _, e := range []api.Errno{api.OK, api.ErrForm, api.ErrTwice, api.ErrSpace} {
		if times[e] < 500 {
			t.Errorf("%d came %d times alone", e, times[e])
		}
	}
}

// renamed answers l with its prefixes named anew.
func renamed(l []api.Elem, names map[string]string) []api.Elem {
	anew := func(name string) string {
		before, after, colon := strings.Cut(name, ":")
		if !colon {
			return name
		}
		if before == "xmlns" {
			return "xmlns:" + names[after]
		}
		if before == "xml" {
			return name
		}
		return names[before] + ":" + after
	}
	c := copied(l)
	for i := range c {
		c[i].Name = anew(c[i].Name)
		for j := range c[i].Attrs {
			c[i].Attrs[j].Name = anew(c[i].Attrs[j].Name)
		}
	}
	return c
}

// P10.2: lists by chance, with their prefixes named anew.
func TestNamedAnewLists(t *testing.T) {
	x := uint64(102)
	others := []map[string]string{
		{"p": "q", "q": "r", "r": "p"},
		{"p": "xm", "q": "xmlnsx", "r": "k"},
		{"p": "a", "q": "b", "r": "u"},
	}
	right := 0
	for range 30000 {
		l := someElems(&x)
		want, wantAt, wantE := spaces.Resolve(l)
		if wantE == api.OK {
			right++
		}
		for _, names := range others {
			got, at, e := spaces.Resolve(renamed(l, names))
			if at != wantAt || e != wantE || !same(got, want) {
				t.Fatalf("%+v with %v: %+v, %d, %d, want %+v, %d, %d", l, names, got, at, e, want, wantAt, wantE)
			}
		}
	}
	if right < 1000 {
		t.Errorf("%d lists alone were right", right)
	}
}

// P10.1: right documents mean what the library's own reader says.
func TestLibrary(t *testing.T) {
	x := uint64(1001)
	right := 0
	for range 30000 {
		l := someElems(&x)
		want, _, e := spaces.Resolve(l)
		s, written := tree.Write(l)
		if e != api.OK || written != api.OK {
			continue
		}
		right++
		var names []xml.StartElement
		d := xml.NewDecoder(strings.NewReader(s))
		for {
			token, err := d.Token()
			if token == nil || err != nil {
				break
			}
			if start, ok := token.(xml.StartElement); ok {
				names = append(names, start.Copy())
			}
		}
		if len(names) != len(want) {
			t.Fatalf("%q: %d elements, %d", s, len(names), len(want))
		}
		for i, y := range want {
			if got := names[i].Name; got.Space != y.Space || got.Local != y.Name {
				t.Fatalf("%q: %v, %v", s, got, y)
			}
			var attrs []string
			for _, a := range names[i].Attr {
				if a.Name.Space != "xmlns" && (a.Name.Space != "" || a.Name.Local != "xmlns") {
					attrs = append(attrs, fmt.Sprintf("%q", []string{a.Name.Space, a.Name.Local, a.Value}))
				}
			}
			var own []string
			for _, a := range y.Attrs {
				own = append(own, fmt.Sprintf("%q", []string{a.Space, a.Name, a.Value}))
			}
			if !slices.Equal(attrs, own) {
				t.Fatalf("%q: %v, %v", s, attrs, own)
			}
		}
	}
	if right < 300 {
		t.Errorf("%d documents alone were right", right)
	}
}

// P10.1, P10.3: any lists; names, values and Ups stand in s, line by line.
func FuzzResolve(f *testing.F) {
	f.Add("-1 a xmlns=u xmlns:p=v p:k=1 k=2\n0 p:b")
	f.Add("-1 p:a")
	f.Add("-1 a xmlns:p=u xmlns:q=u p:k= q:k=")
	f.Add("-1 a xmlns:p=u\n0 b xmlns= xmlns:p=v xml:k=1\n1 p:c p:k=\n0 p:d :=")
	f.Fuzz(func(t *testing.T, s string) {
		var l []api.Elem
		for i, line := range strings.Split(s, "\n") {
			words := strings.Split(line, " ")
			up, _ := strconv.Atoi(words[0])
			x := api.Elem{Up: up, At: 1000 * i, Text: line}
			for j, word := range words[1:] {
				name, value, _ := strings.Cut(word, "=")
				if j == 0 {
					x.Name = word
				} else {
					x.Attrs = append(x.Attrs, attr(1000*i+j, name, value))
				}
			}
			l = append(l, x)
		}
		holdAgainstModel(t, l)
	})
}

// P10.1: any document that is one of layer 9.
func FuzzDocument(f *testing.F) {
	f.Add("<a xmlns='u' xmlns:p='v' p:k='1' k='2'><p:b/></a>")
	f.Add("<a xmlns:p='u' xmlns:q='u' p:k='' q:k=''/>")
	f.Add("<a><b xmlns:p='u' xmlns=''/><p:c xml:id=''/></a>")
	f.Fuzz(func(t *testing.T, s string) {
		if l, _, e := tree.Parse(s); e == api.OK {
			holdAgainstModel(t, l)
		}
	})
}
