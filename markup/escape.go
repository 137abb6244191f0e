package markup

import (
	"strconv"
	"strings"

	"pavane/utf"
)

// mostDigits is how many digits the number of a reference may have.
const mostDigits = 8

// entity is a reference by a name, without its last byte, and what it means.
type entity struct {
	body, means string
}

var entities = [...]entity{
	{"&lt", "<"},
	{"&gt", ">"},
	{"&amp", "&"},
	{"&apos", "'"},
	{"&quot", `"`},
}

// Escape answers s as it is written between tags.
func Escape(s string) string {
	return refer(s, "&<>\r")
}

// Quote answers s as it is written as an attribute's value.
func Quote(s string) string {
	return `"` + refer(s, "&<\"\t\n\r") + `"`
}

// refer answers s with a reference for each byte that is one of those.
func refer(s, those string) string {
	var b strings.Builder
	for i := range len(s) {
		if strings.IndexByte(those, s[i]) < 0 {
			b.WriteByte(s[i])
		} else {
			b.WriteString(referenceTo(s[i]))
		}
	}
	return b.String()
}

// referenceTo answers the reference for the byte c, by a name if it has one.
func referenceTo(c byte) string {
	for _, x := range entities {
		if x.means[0] == c {
			return x.body + ";"
		}
	}
	return "&#" + strconv.Itoa(int(c)) + ";"
}

// meaning answers what a reference means whose bytes ahead of the ; are body;
// nothing, if there is no such reference.
func meaning(body string) string {
	for _, x := range entities {
		if x.body == body {
			return x.means
		}
	}
	if digits, ok := strings.CutPrefix(body, "&#x"); ok {
		return numbered(digits, 16)
	}
	if digits, ok := strings.CutPrefix(body, "&#"); ok {
		return numbered(digits, 10)
	}
	return ""
}

// numbered answers the character of the number that has these digits; nothing,
// if there is none.
func numbered(digits string, base int) string {
	if len(digits) > mostDigits {
		return ""
	}
	n, err := strconv.ParseUint(digits, base, 32)
	// A number that is too great for an int32 wraps round to one below 0,
	// which is no character either.
	if err != nil || !utf.Char(int32(n)) {
		return ""
	}
	return utf.Put(int32(n))
}
