package tree

import (
	"slices"

	"platen/api"
	"platen/scan"
)

// right asks whether a node is as it may be behind those ahead of it, which are.
func right(l []api.Node, n int) bool {
	return isKind(l[n].Kind) && stands(l, n) && hasItsOwn(l[n]) && saysItsOwn(l, n)
}

// stands asks for a Parent that is open where the node begins, bears it, and is not too deep.
func stands(l []api.Node, n int) bool {
	if n == 0 {
		return l[n].Kind == api.NdDoc && l[n].Parent == none
	}
	open := path(l, n-1)
	ahead := slices.Index(open, l[n].Parent) + 1
	if ahead == 0 || kindOf(l[n]).within>>l[l[n].Parent].Kind&1 == 0 {
		return false
	}
	return l[n].Kind == api.NdText || ahead < api.MaxDepth
}

// hasItsOwn asks for the attributes that its kind must have, for none but those that it may have, and for their values.
func hasItsOwn(n api.Node) bool {
	k := kindOf(n)
	if n.Has&^k.may != 0 || n.Has&k.must != k.must {
		return false
	}
	for _, a := range attributes(n) {
		if n.Has&a.bit != 0 && !a.right || n.Has&a.bit == 0 && !a.zero {
			return false
		}
	}
	return true
}

// saysItsOwn asks for characters of a text, and of nothing else. Nothing is in a text: so another one that it follows with nothing between is right ahead.
func saysItsOwn(l []api.Node, n int) bool {
	if l[n].Kind != api.NdText {
		return len(l[n].Chars) == 0
	}
	if ahead := l[n-1]; len(l[n].Chars) == 0 || ahead.Kind == api.NdText && ahead.Parent == l[n].Parent {
		return false
	}
	_, e := scan.Text(l[n].Chars)
	return e == api.OK
}
