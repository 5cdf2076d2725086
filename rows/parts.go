// Package rows: the rows of a picture, with their filters undone: see DOC.md,
// 'Pictures'.
package rows

import "vellum/head"

// Part is a picture whose rows follow each other: the whole one, or a small one
// of an interlaced one. It says which pixels of the whole one it has.
type Part struct {
	X, StepX, Y, StepY int
	Width, Height      int
}

// small has the first x and its step, the first y and its step of each of the
// small pictures.
var small = [7][4]uint8{
	{0, 8, 0, 8},
	{4, 8, 0, 8},
	{0, 4, 4, 8},
	{2, 4, 0, 4},
	{0, 2, 2, 4},
	{1, 2, 0, 2},
	{0, 1, 1, 2},
}

// Parts are those of a picture that have pixels, in the order of their rows.
func Parts(of head.Head) []Part {
	if !of.Interlaced {
		return []Part{{StepX: 1, StepY: 1, Width: of.Width, Height: of.Height}}
	}
	var parts []Part
	for _, s := range small {
		part := Part{X: int(s[0]), StepX: int(s[1]), Y: int(s[2]), StepY: int(s[3])}
		part.Width = steps(of.Width, part.X, part.StepX)
		part.Height = steps(of.Height, part.Y, part.StepY)
		if part.Width > 0 && part.Height > 0 {
			parts = append(parts, part)
		}
	}
	return parts
}

// steps is how many places below end there are, from the first one on.
func steps(end, first, step int) int {
	if end <= first {
		return 0
	}
	return (end-first-1)/step + 1
}
