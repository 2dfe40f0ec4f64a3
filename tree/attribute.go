package tree

import (
	"strconv"

	"platen/api"
	"platen/unit"
)

// attribute is one of a node's: its bit of Has, how it is written, whether its value is zero, and whether it is one that may be.
type attribute struct {
	bit         int
	name, value string
	zero, right bool
}

// attributes are a node's, in the order in which they are written, whether it has them or not.
func attributes(n api.Node) [7]attribute {
	return [7]attribute{
		length(api.HasWidth, "width", n.Width, 1, api.MaxSide),
		length(api.HasHeight, "height", n.Height, 1, api.MaxSide),
		{api.HasFont, "font", n.Font, n.Font == "", isName(n.Font)},
		length(api.HasSize, "size", n.Size, 1, api.MaxSize),
		length(api.HasLead, "lead", n.Lead, 0, api.MaxSide),
		length(api.HasSkip, "skip", n.Skip, 0, api.MaxSide),
		{api.HasTol, "tol", strconv.Itoa(n.Tol), n.Tol == 0, 0 <= n.Tol && n.Tol <= api.MaxBad},
	}
}

func length(bit int, name string, n, least, most int) attribute {
	value, e := unit.Print(n)
	return attribute{bit, name, value, n == 0, e == api.OK && least <= n && n <= most}
}

func isName(s string) bool {
	if s == "" || len(s) > api.MaxName {
		return false
	}
	for _, r := range s {
		switch {
		case 'a' <= r && r <= 'z', 'A' <= r && r <= 'Z', '0' <= r && r <= '9', r == '-', r == '_':
		default:
			return false
		}
	}
	return true
}
