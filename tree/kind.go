package tree

import "platen/api"

// kind is what the nodes of a kind may be: an element's name; of which kinds their Parent is, by bits; which attributes they may have, and which they must.
type kind struct {
	name      string
	within    int
	may, must int
}

// The attributes that are said together.
const (
	ofPages = api.HasWidth | api.HasHeight
	ofFonts = api.HasFont | api.HasSize
	ofLines = api.HasLead | api.HasSkip | api.HasTol
)

const (
	inDoc = 1 << api.NdDoc
	inPar = 1<<api.NdPar | 1<<api.NdSpan
)

var kinds = [6]kind{
	api.NdDoc:  {name: "doc", may: ofPages | ofFonts | ofLines, must: ofPages},
	api.NdPar:  {name: "p", within: inDoc, may: ofFonts | ofLines},
	api.NdSpan: {name: "s", within: inPar, may: ofFonts},
	api.NdText: {within: inPar},
	api.NdLine: {within: inPar},
}

// kindOf is for nodes of one of the five kinds.
func kindOf(n api.Node) kind { return kinds[n.Kind] }

func isKind(k int) bool { return api.NdDoc <= k && k <= api.NdLine }
