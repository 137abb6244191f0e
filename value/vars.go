package value

import (
	"slices"
	"strings"

	"pavane/api"
)

// Vars answers whether the variables may be.
func Vars(l []api.Var) bool {
	if len(l) > api.MaxVars {
		return false
	}
	for i, x := range l {
		if !Name(x.Name) || !May(x.Val) {
			return false
		}
		if i > 0 && l[i-1].Name >= x.Name {
			return false
		}
	}
	return true
}

// Get answers the first value in l under the name, and whether there is one.
// Names need not rise in l, so that each is looked at.
func Get(l []api.Var, name string) (api.Value, bool) {
	for _, x := range l {
		if x.Name == name {
			return x.Val, true
		}
	}
	return api.Value{}, false
}

// With answers l with v under the name; l as it is, if its variables may not
// be, or the name is none.
func With(l []api.Var, name string, v api.Value) []api.Var {
	changed := slices.Clone(l)
	if !Vars(l) || !Name(name) {
		return changed
	}
	at, found := slices.BinarySearchFunc(changed, name, order)
	if found {
		changed[at].Val = v
		return changed
	}
	return slices.Insert(changed, at, api.Var{Name: name, Val: v})
}

// order tells how the variable's name stands to another name, byte by byte.
func order(x api.Var, name string) int {
	return strings.Compare(x.Name, name)
}

// Fits answers whether l are just the variables that d declares.
func Fits(l []api.Var, d []api.Decl) bool {
	if len(l) != len(d) {
		return false
	}
	for i, x := range l {
		if x.Name != d[i].Name || x.Val.Kind != d[i].Kind || !May(x.Val) {
			return false
		}
	}
	return true
}
