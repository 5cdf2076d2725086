package rows

const lastFilter = 4

// added is what a filter adds to a byte: of the bytes to the left (L), above
// (A) and above to the left (C), as they are without their filters.
func added(filter, left, above, corner byte) byte {
	switch filter {
	case 1:
		return left
	case 2:
		return above
	case 3:
		return byte((int(left) + int(above)) / 2)
	case 4:
		return nearest(int(left), int(above), int(corner))
	}
	return 0
}

// nearest is that one of the three that is nearest to L + A - C.
func nearest(left, above, corner int) byte {
	// How far L is from it is how far A is from C, and so on.
	fromLeft := distance(above, corner)
	fromAbove := distance(left, corner)
	fromCorner := distance(left+above, 2*corner)
	switch {
	case fromLeft <= fromAbove && fromLeft <= fromCorner:
		return byte(left)
	case fromAbove <= fromCorner:
		return byte(above)
	}
	return byte(corner)
}

func distance(a, b int) int {
	return max(a-b, b-a)
}
