package spaces

import (
	"strings"

	"pavane/api"
)

const (
	// none stands for the prefix of a name that has none.
	none = ""
	// declares is the name, or prefix, of attributes that are declarations.
	declares = "xmlns"
	// xmlPrefix means xmlSpace everywhere.
	xmlPrefix = "xml"
	xmlSpace  = "http://www.w3.org/XML/1998/namespace"
)

// cut answers the prefix and the local name of a name, and whether it is a
// qualified one.
func cut(name string) (string, string, bool) {
	prefix, local, colon := strings.Cut(name, ":")
	if !colon {
		return none, name, name != ""
	}
	if prefix == "" || local == "" || strings.Contains(local, ":") {
		return "", "", false
	}
	return prefix, local, true
}

// declared answers the prefix that the attribute declares (none of the default
// space), and whether it is a declaration.
func declared(a api.Attr) (string, bool) {
	if a.Name == declares {
		return none, true
	}
	prefix, local, ok := cut(a.Name)
	if ok && prefix == declares {
		return local, true
	}
	return "", false
}
