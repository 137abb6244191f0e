package tree

import (
	"strings"

	"pavane/api"
)

const white = " \t\r\n"

// builder puts marks together, from the document's beginning on.
type builder struct {
	elems []api.Elem
	open  []opened // the innermost one last
}

// opened is an element that is open: its place, and the texts that have stood
// in it so far. They are bytes, as texts put together one by one are copied
// again for each.
type opened struct {
	place int
	text  []byte
}

// take takes the next mark, or answers a fault and its place.
func (b *builder) take(m api.Mark) (int, api.Errno) {
	switch m.Kind {
	case api.MarkStart:
		return b.start(m)
	case api.MarkEnd:
		return m.At, b.end(m.Name)
	default:
		return m.At, b.text(m.Text)
	}
}

// start lays an element, which is open unless it is empty.
func (b *builder) start(m api.Mark) (int, api.Errno) {
	switch {
	case len(b.elems) > 0 && len(b.open) == 0:
		return m.At, api.ErrRoot
	case len(b.open) == api.MaxLevels:
		return m.At, api.ErrDeep
	case len(b.elems) == api.MaxElems:
		return m.At, api.ErrMany
	}
	if i := twice(m.Attrs); i >= 0 {
		return m.Attrs[i].At, api.ErrTwice
	}
	place := len(b.elems)
	b.elems = append(b.elems, api.Elem{Name: m.Name, Attrs: m.Attrs, Up: b.innermost(), At: m.At})
	if !m.Empty {
		b.open = append(b.open, opened{place: place})
	}
	return 0, api.OK
}

// end closes the innermost element, which must have this name.
func (b *builder) end(name string) api.Errno {
	place := b.innermost()
	if place == outside || b.elems[place].Name != name {
		return api.ErrTag
	}
	last := len(b.open) - 1
	b.elems[place].Text = string(b.open[last].text)
	b.open = b.open[:last]
	return api.OK
}

// text adds s to the texts of the innermost element. Outside of the root there
// is none that it could be of.
func (b *builder) text(s string) api.Errno {
	if len(b.open) > 0 {
		in := &b.open[len(b.open)-1]
		in.text = append(in.text, s...)
		return api.OK
	}
	if strings.Trim(s, white) != "" {
		return api.ErrRoot
	}
	return api.OK
}

// innermost answers the place of the innermost element that is open.
func (b *builder) innermost() int {
	if len(b.open) == 0 {
		return outside
	}
	return b.open[len(b.open)-1].place
}
