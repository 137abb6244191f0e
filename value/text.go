package value

import (
	"strconv"
	"strings"

	"pavane/api"
)

const (
	yes = "true"
	no  = "false"
	// quote stands at both ends of a Text's text.
	quote = '"'
	// escape stands ahead of each quote, and each escape, between them.
	escape = '\\'
	// longest is how many bytes a value's text has at most: two for each of
	// MaxString, and both quotes.
	longest = 2*api.MaxString + 2
)

// Print answers the value's text; nothing, if the value may not be.
func Print(v api.Value) string {
	if !May(v) {
		return ""
	}
	switch v.Kind {
	case api.Int:
		return strconv.FormatInt(v.N, 10)
	case api.Bool:
		if v.N == 1 {
			return yes
		}
		return no
	}
	return quoted(v.S)
}

// Parse answers the value whose text s is, and whether there is one.
func Parse(s string) (api.Value, bool) {
	if len(s) > longest {
		return api.Value{}, false
	}
	v := meant(s)
	// What can be read in more ways than one (+5, 05, "a"b") has still but one
	// text.
	if !May(v) || Print(v) != s {
		return api.Value{}, false
	}
	return v, true
}

// meant answers the only value whose text s can be; if it is none's, it may be
// any value.
func meant(s string) api.Value {
	switch {
	case s == yes:
		return api.Value{Kind: api.Bool, N: 1}
	case s == no:
		return api.Value{Kind: api.Bool}
	case len(s) >= 2 && s[0] == quote:
		return api.Value{Kind: api.Text, S: unescaped(s[1 : len(s)-1])}
	}
	n, err := strconv.ParseInt(s, 10, 64)
	if err != nil {
		return api.Value{}
	}
	return api.Value{Kind: api.Int, N: n}
}

// quoted answers s between quotes, those in it escaped.
func quoted(s string) string {
	var b strings.Builder
	b.WriteByte(quote)
	for i := range len(s) {
		if s[i] == quote || s[i] == escape {
			b.WriteByte(escape)
		}
		b.WriteByte(s[i])
	}
	b.WriteByte(quote)
	return b.String()
}

// unescaped answers s without the escapes that stand ahead of other bytes.
func unescaped(s string) string {
	var b strings.Builder
	for i := 0; i < len(s); i++ {
		if s[i] == escape && i+1 < len(s) {
			i++
		}
		b.WriteByte(s[i])
	}
	return b.String()
}
