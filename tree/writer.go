package tree

import (
	"strings"

	"pavane/api"
	"pavane/markup"
	"pavane/utf"
)

// writer writes elements, from the first one on.
type writer struct {
	b     strings.Builder
	elems []api.Elem
	open  []int // the places of those whose ends aren't written, the innermost one last
}

// begin writes the element at a place up to the elements in it, and ahead of
// it the ends of those that it doesn't stand in.
func (w *writer) begin(place int) {
	x := w.elems[place]
	w.endWithin(x.Up)
	w.b.WriteString("<" + x.Name)
	for _, a := range x.Attrs {
		w.b.WriteString(" " + a.Name + "=")
		w.b.WriteString(markup.Quote(a.Value))
	}
	if x.Text == "" && !w.holds(place) {
		w.b.WriteString("/>")
		return
	}
	w.b.WriteString(">")
	w.b.WriteString(markup.Escape(x.Text))
	w.open = append(w.open, place)
}

// holds answers whether elements stand in the one at a place: the first of
// them comes next behind it.
func (w *writer) holds(place int) bool {
	next := place + 1
	return next < len(w.elems) && w.elems[next].Up == place
}

// endWithin writes the ends of all that is open within the element at a place,
// or outside.
func (w *writer) endWithin(place int) {
	for last := len(w.open) - 1; last >= 0 && w.open[last] != place; last-- {
		w.b.WriteString("</" + w.elems[w.open[last]].Name + ">")
		w.open = w.open[:last]
	}
}

// isDocument answers whether l is the list of a document.
func isDocument(l []api.Elem) bool {
	if len(l) == 0 || len(l) > api.MaxElems {
		return false
	}
	open := []int{outside}
	for place, x := range l {
		// Outside stays open all the time, but the root alone stands there.
		if place > 0 && x.Up == outside {
			return false
		}
		for len(open) > 0 && open[len(open)-1] != x.Up {
			open = open[:len(open)-1]
		}
		if len(open) == 0 || len(open) > api.MaxLevels || !isElement(x) {
			return false
		}
		open = append(open, place)
	}
	return true
}

// isElement answers whether x could be an element, wherever it stands.
func isElement(x api.Elem) bool {
	if !isName(x.Name) || !areCharacters(x.Text) {
		return false
	}
	for _, a := range x.Attrs {
		if !isName(a.Name) || !areCharacters(a.Value) {
			return false
		}
	}
	return twice(x.Attrs) < 0
}

// isName answers whether s is a name as documents have them.
func isName(s string) bool {
	at := 0
	for fits := utf.Letter; at < len(s); fits = utf.NameRune {
		r, n := utf.Next(s, at)
		if r != ':' && !fits(r) {
			return false
		}
		at += n
	}
	return s != ""
}

// areCharacters answers whether s is characters alone. Where no rune stands
// Next tells 0, which is no character, and fits in no name either.
func areCharacters(s string) bool {
	for at := 0; at < len(s); {
		r, n := utf.Next(s, at)
		if !utf.Char(r) {
			return false
		}
		at += n
	}
	return true
}
