package spaces

import (
	"maps"

	"pavane/api"
)

// space is what a prefix means.
type space struct {
	name string
}

// holding is what holds at some element: the spaces of the prefixes that are
// declared there or around it, and under none the default space. Elements that
// declare nothing have it in common with the one around them: it isn't changed
// any more, but copied.
type holding map[string]space

// beginning answers what holds around the first element.
func beginning() holding {
	return holding{xmlPrefix: {xmlSpace}}
}

// within answers what holds at x, where h is what holds around it.
func (h holding) within(x api.Elem) holding {
	copied := false
	for _, a := range x.Attrs {
		prefix, ok := declared(a)
		if !ok {
			continue
		}
		if !copied {
			h, copied = maps.Clone(h), true
		}
		h[prefix] = space{a.Value}
	}
	return h
}

// resolve answers x with its names' spaces, or its first fault and the place
// of that.
func (h holding) resolve(x api.Elem) (api.SpaceElem, int, api.Errno) {
	prefix, local, _ := cut(x.Name)
	s, ok := h[prefix]
	if !ok && prefix != none {
		return api.SpaceElem{}, x.At, api.ErrSpace
	}
	attrs, at, e := h.attributes(x.Attrs)
	if e != api.OK {
		return api.SpaceElem{}, at, e
	}
	return api.SpaceElem{Space: s.name, Name: local, Attrs: attrs, Text: x.Text, Up: x.Up, At: x.At}, 0, api.OK
}

// full is a name with its space.
type full struct {
	space, name string
}

// attributes answers those of l that aren't declarations, with their spaces;
// or their first fault and its place. An element has room for so many of them
// that holding each against each would take long.
func (h holding) attributes(l []api.Attr) ([]api.SpaceAttr, int, api.Errno) {
	times := map[full]int{}
	var resolved []api.SpaceAttr
	for _, a := range l {
		if _, ok := declared(a); ok {
			continue
		}
		name, ok := h.attribute(a)
		if !ok {
			return nil, a.At, api.ErrSpace
		}
		times[name]++
		if times[name] > 1 {
			return nil, a.At, api.ErrTwice
		}
		resolved = append(resolved, api.SpaceAttr{Space: name.space, Name: name.name, Value: a.Value, At: a.At})
	}
	return resolved, 0, api.OK
}

// attribute answers the full name of an attribute, and whether a declaration
// of its prefix holds. The default space isn't one of attributes.
func (h holding) attribute(a api.Attr) (full, bool) {
	prefix, local, _ := cut(a.Name)
	if prefix == none {
		return full{name: local}, true
	}
	s, ok := h[prefix]
	return full{s.name, local}, ok
}
