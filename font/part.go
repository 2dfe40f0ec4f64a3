package font

// part is what may stand at a place of the bytes: a number of so many bytes; a letter is one of one byte.
type part int

const (
	letterP part = iota
	letterF
	letter1
	em
	glyphCount
	glyphRune
	width
	height
	depth
	pairCount
	leftSide
	rightSide
	pairKind
	ligature
	kern
	checkSum
	nothing // behind the sum
)

// mark has the letters at the places of their parts.
const mark = "PF1"

// The kinds of pairs.
const (
	isLigature = 1
	isKern     = 2
)

// kernNought is laid for a kern of 0, so that none is below it.
const kernNought = 32768

func (p part) size() int {
	switch p {
	case letterP, letterF, letter1, pairKind, nothing:
		return 1
	case glyphRune, leftSide, rightSide, ligature:
		return 3
	case checkSum:
		return 4
	}
	return 2
}

// sum is that of the bytes so far.
type sum uint32

const sumOfNone sum = 2166136261

func (s sum) with(c byte) sum { return (s ^ sum(c)) * 16777619 }
