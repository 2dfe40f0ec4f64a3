package fault

import (
	"errors"
	"strconv"

	"platen/api"
)

// A kind is told as an error, too, so that its class can be asked of it: nil, if nothing is wrong; one of the table, that wraps its class; or a number and no more.

type known struct {
	name  string
	class error
}

func (k known) Error() string { return k.name }

func (k known) Unwrap() error { return k.class }

type number int

func (n number) Error() string { return "error " + strconv.Itoa(int(n)) }

func kind(k api.Errno) error {
	switch k {
	case api.OK:
		return nil
	case api.ErrMeterSteps:
		return known{"steps", ErrBudget}
	case api.ErrMeterCells:
		return known{"cells", ErrBudget}
	case api.ErrRunesByte:
		return known{"byte", ErrText}
	case api.ErrFontForm:
		return known{"form", ErrFont}
	case api.ErrFontSum:
		return known{"sum", ErrFont}
	case api.ErrScanByte:
		return known{"markup", ErrSyntax}
	case api.ErrScanEntity:
		return known{"entity", ErrSyntax}
	case api.ErrScanLong:
		return known{"long", ErrLimit}
	case api.ErrUnitForm:
		return known{"length", ErrSyntax}
	case api.ErrUnitRange:
		return known{"range", ErrRange}
	case api.ErrParseTag:
		return known{"tag", ErrSyntax}
	case api.ErrParseClose:
		return known{"close", ErrSyntax}
	case api.ErrParseTwice:
		return known{"twice", ErrSyntax}
	case api.ErrParseDeep:
		return known{"deep", ErrLimit}
	case api.ErrParseMany:
		return known{"nodes", ErrLimit}
	case api.ErrParseEnd:
		return known{"end", ErrSyntax}
	case api.ErrStyleFont:
		return known{"font", ErrFont}
	case api.ErrStyleNone:
		return known{"none", ErrFont}
	case api.ErrShapeGlyph:
		return known{"glyph", ErrFont}
	case api.ErrItemsMany:
		return known{"items", ErrLimit}
	case api.ErrBreaksMany:
		return known{"breaks", ErrLimit}
	}
	return number(k)
}

func name(e error) string {
	switch k := e.(type) {
	case nil:
		return "ok"
	case known:
		return k.name
	}
	return ""
}

func class(e error) error {
	switch {
	case errors.Is(e, ErrBudget):
		return ErrBudget
	case errors.Is(e, ErrText):
		return ErrText
	case errors.Is(e, ErrSyntax):
		return ErrSyntax
	case errors.Is(e, ErrFont):
		return ErrFont
	case errors.Is(e, ErrLimit):
		return ErrLimit
	case errors.Is(e, ErrRange):
		return ErrRange
	}
	return nil
}
