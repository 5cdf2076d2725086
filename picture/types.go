package picture

import "vellum/chunk"

// The types of chunks that say something.
const (
	headType    = "IHDR"
	entriesType = "PLTE"
	coverType   = "tRNS"
	rowsType    = "IDAT"
	lastType    = "IEND"
)

// mayStandAhead says which types may stand between the head and the rows, or
// begin the rows.
func mayStandAhead(letters string) bool {
	return chunk.IsSmall(letters) || chunk.OneOf(letters, entriesType, rowsType)
}

// mayStandBehind says which types may stand right behind a chunk of rows.
func mayStandBehind(letters string) bool {
	return mayStandLast(letters) || chunk.OneOf(letters, rowsType)
}

// mayStandLast says which types may stand where there are no more rows.
func mayStandLast(letters string) bool {
	return chunk.IsSmall(letters) && letters != coverType || chunk.OneOf(letters, lastType)
}
