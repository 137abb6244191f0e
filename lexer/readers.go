package lexer

import (
	"slices"
	"strings"

	"pavane/api"
	"pavane/utf"
	"pavane/value"
)

// signs are all of them. The first one that fits is taken, so that those of
// two bytes stand ahead of those of one.
var signs = [...]string{
	"==", "!=", "<=", ">=", "&&", "||",
	"+", "-", "*", "/", "%", "(", ")", "?", ":", "!", "<", ">",
}

// reader reads the token that begins at a place of s. It answers the token and
// the place behind it; or, with an error, the place of a fault.
type reader func(s string, at int) (api.Tok, int, api.Errno)

// readers answers the one of each kind of token.
func readers() map[int]reader {
	return map[int]reader{
		api.TokNumber: number,
		api.TokText:   text,
		api.TokName:   word,
		api.TokSign:   sign,
	}
}

// number reads digits, as many as there are. A nought ahead, or too great a
// number, makes them no value's text.
func number(s string, at int) (api.Tok, int, api.Errno) {
	next := past(api.TokNumber)(s, at)
	v, ok := value.Parse(s[at:next])
	if !ok {
		return api.Tok{}, at, api.ErrNumber
	}
	return api.Tok{N: v.N}, next, api.OK
}

// word reads a letter, and all letters and digits behind it.
func word(s string, at int) (api.Tok, int, api.Errno) {
	next := past(api.TokName, api.TokNumber)(s, at)
	return api.Tok{Text: strings.Clone(s[at:next])}, next, api.OK
}

// past answers a function that counts on in s as long as there are bytes that
// begin tokens of these kinds, and answers the place behind them.
func past(kinds ...int) func(s string, at int) int {
	return func(s string, at int) int {
		for at < len(s) && slices.Contains(kinds, begun(s[at])) {
			at++
		}
		return at
	}
}

// text reads a text between quotes. Nothing but its length can keep it from
// being a value's text once its end is found.
func text(s string, at int) (api.Tok, int, api.Errno) {
	next, e := textEnd(s, at)
	if e != api.OK {
		return api.Tok{}, next, e
	}
	v, ok := value.Parse(s[at:next])
	if !ok {
		return api.Tok{}, at, api.ErrLong
	}
	return api.Tok{Text: v.S}, next, api.OK
}

// textEnd answers the place behind the text that begins at a place; or its
// first fault, and the place of that.
func textEnd(s string, begin int) (int, api.Errno) {
	for at := begin + 1; at < len(s); {
		r, n := utf.Next(s, at)
		switch {
		case r == quote:
			return at + 1, api.OK
		case r == escape:
			if at+1 < len(s) && s[at+1] != quote && s[at+1] != escape {
				return at, api.ErrSign
			}
			at += 2
		case !utf.Char(r):
			return at, api.ErrChar
		default:
			at += n
		}
	}
	return begin, api.ErrUnended
}

// sign reads the longest sign that stands here.
func sign(s string, at int) (api.Tok, int, api.Errno) {
	for _, x := range signs {
		if strings.HasPrefix(s[at:], x) {
			return api.Tok{Text: x}, at + len(x), api.OK
		}
	}
	return api.Tok{}, at, api.ErrSign
}
