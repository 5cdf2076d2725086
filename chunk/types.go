package chunk

import (
	"strings"

	"vellum/fault"
	"vellum/source"
)

// May says whether a type that begins with these letters may stand somewhere. It
// is asked behind each letter, since the first one may settle it.
type May func(letters string) bool

// IsSmall says whether the first letter of a type is small.
func IsSmall(letters string) bool { return isSmall(letters[0]) }

// OneOf says whether one of some types begins with letters.
func OneOf(letters string, names ...string) bool {
	for _, name := range names {
		if strings.HasPrefix(name, letters) {
			return true
		}
	}
	return false
}

func readType(from source.Bytes, may May) (string, error) {
	letters := ""
	for len(letters) < 4 {
		b, err := source.Need(from)
		if err != nil {
			return "", err
		}
		if !isCapital(b) && (!isSmall(b) || len(letters) == 2) {
			return "", fault.NewMalformed("a letter of a type that may not be")
		}
		letters += string(rune(b))
		if !may(letters) {
			return "", fault.NewMalformed("a type that may not stand here, which begins with " + letters)
		}
	}
	return letters, nil
}

func isCapital(b byte) bool { return b >= 'A' && b <= 'Z' }

func isSmall(b byte) bool { return b >= 'a' && b <= 'z' }
