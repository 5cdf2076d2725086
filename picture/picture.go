// Package picture: a picture out of any source of bytes: which chunks stand
// where, and what comes of them: see DOC.md, 'Pictures'.
package picture

import (
	"vellum/api"
	"vellum/chunk"
	"vellum/colour"
	"vellum/fault"
	"vellum/head"
	"vellum/paint"
	"vellum/rows"
	"vellum/source"
	"vellum/unpack"
)

// Read reads the picture that is all that a source has. It may have so many
// pixels; if it has more, that is told behind the first chunk (fault.TooLarge).
func Read(from source.Bytes, limit int) (api.Image, error) {
	chunks := chunk.New(from)
	image, err := read(chunks, limit)
	if err != nil {
		return api.Image{}, fault.At("chunk", chunks.Number(), err)
	}
	return image, nil
}

func read(chunks *chunk.Reader, limit int) (api.Image, error) {
	of, err := readHead(chunks, limit)
	if err != nil {
		return api.Image{}, err
	}
	colours, err := readColours(chunks, of)
	if err != nil {
		return api.Image{}, err
	}
	image, err := readRows(chunks, of, colours)
	if err != nil {
		return api.Image{}, err
	}
	if err := readRest(chunks); err != nil {
		return api.Image{}, err
	}
	return image, nil
}

// readHead reads what stands ahead of the second chunk.
func readHead(chunks *chunk.Reader, limit int) (head.Head, error) {
	if err := chunks.Open(); err != nil {
		return head.Head{}, err
	}
	if err := chunks.BeginAs(headType, head.Size); err != nil {
		return head.Head{}, err
	}
	of, err := head.Read(chunks)
	if err != nil {
		return head.Head{}, err
	}
	if err := chunks.Finish(); err != nil {
		return head.Head{}, err
	}
	// The product may be too great for an int.
	if uint64(of.Width)*uint64(of.Height) > uint64(limit) {
		return head.Head{}, fault.TooLarge
	}
	return of, nil
}

// readColours reads the chunks ahead of the rows; then that of the first rows
// is at hand.
func readColours(chunks *chunk.Reader, of head.Head) (*colour.Colours, error) {
	colours := colour.New(of)
	for {
		if err := chunks.Begin(mayStandAhead); err != nil {
			return nil, err
		}
		if chunks.Type() == rowsType {
			return colours, colours.Whole()
		}
		if err := readAhead(chunks, colours); err != nil {
			return nil, err
		}
		if err := chunks.Finish(); err != nil {
			return nil, err
		}
	}
}

// readAhead reads what a chunk ahead of the rows says, if it says something.
func readAhead(chunks *chunk.Reader, colours *colour.Colours) error {
	switch chunks.Type() {
	case entriesType:
		return colours.ReadEntries(chunks)
	case coverType:
		return colours.ReadCover(chunks)
	}
	return nil
}

// readRows reads the rows, in whatever way they are parted into chunks; then
// the chunk behind them is at hand.
func readRows(chunks *chunk.Reader, of head.Head, colours *colour.Colours) (api.Image, error) {
	canvas := paint.New(of, colours)
	into := rows.New(of, canvas.Byte)
	data := chunk.Join(chunks, mayStandBehind)
	if err := unpack.Wrapped(data, into.Size(), into.Put); err != nil {
		return api.Image{}, err
	}
	return canvas.Image(), nil
}

// readRest reads the chunk at hand and all behind it.
func readRest(chunks *chunk.Reader) error {
	for chunks.Type() != lastType {
		if err := chunks.Next(mayStandLast); err != nil {
			return err
		}
	}
	if chunks.Left() > 0 {
		return fault.NewMalformed("an IEND with data")
	}
	if err := chunks.Finish(); err != nil {
		return err
	}
	return chunks.End()
}
