package tree

import (
	"strings"

	"platen/api"
	"platen/scan"
)

// writer writes a document's nodes, one behind the other; the elements of open, one within another, have not ended.
type writer struct {
	nodes []api.Node
	open  []int
	text  strings.Builder
}

func (w *writer) node(n int) {
	switch x := w.nodes[n]; x.Kind {
	case api.NdText:
		s, _ := scan.Text(x.Chars) // Check has seen that it can be written
		w.text.WriteString(s)
	case api.NdLine:
		w.text.WriteString("<br/>")
	default:
		w.opening(x)
		w.open = append(w.open, n)
	}
}

func (w *writer) opening(n api.Node) {
	w.text.WriteString("<" + kindOf(n).name)
	for _, a := range attributes(n) {
		if n.Has&a.bit != 0 {
			w.text.WriteString(" " + a.name + `="` + a.value + `"`)
		}
	}
	w.text.WriteByte('>')
}

// closeUpTo ends all open elements that are in that one.
func (w *writer) closeUpTo(n int) {
	for last := len(w.open) - 1; last >= 0 && w.open[last] != n; last-- {
		w.text.WriteString("</" + kindOf(w.nodes[w.open[last]]).name + ">")
		w.open = w.open[:last]
	}
}
