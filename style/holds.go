package style

import "platen/api"

// face is the font and the size in which a character stands.
type face struct {
	font string
	size int
}

// around is what holds around a node.
type around struct {
	face
	lead, skip, tol int
}

// style is what holds at a node: what holds around it is its own, but for what the node says itself.
type style struct {
	around
	node *api.Node
}

// usual is what holds around a document.
func usual() around {
	return around{face: face{size: 10 * api.One}, lead: 12 * api.One, tol: 200}
}

// at lays what a node says over what holds around it.
func (a around) at(x *api.Node) style {
	s := style{a, x}
	if s.says(api.HasFont) {
		s.font = x.Font
	}
	if s.says(api.HasSize) {
		s.size = x.Size
	}
	if s.says(api.HasLead) {
		s.lead = x.Lead
	}
	if s.says(api.HasSkip) {
		s.skip = x.Skip
	}
	if s.says(api.HasTol) {
		s.tol = x.Tol
	}
	return s
}

// says asks whether the node itself has an attribute.
func (s style) says(bit int) bool { return s.node.Has&bit != 0 }

// isNone: no node has a font.
func (f face) isNone() bool { return f.font == "" }

// isOf asks whether a run is in this font and size.
func (f face) isOf(r api.Run) bool { return f == face{r.Font, r.Size} }

// run is one without characters.
func (f face) run() api.Run { return api.Run{Font: f.font, Size: f.size} }
