package geometry

import "hopmesh/api"

// sides says on which sides of a line two points lie: 1 or -1, or 0 if a point lies on it.
type sides struct{ first, second int }

// Crosses reports whether the path from a to b crosses a wall.
func Crosses(a, b api.Point, w api.Wall) bool {
	// the last two conditions do not part segments on one line, and a point from a segment; their extents do
	return overlap(a.X, b.X, w.A.X, w.B.X) && overlap(a.Y, b.Y, w.A.Y, w.B.Y) &&
		!sidesOf(a, b, w.A, w.B).equal() && !sidesOf(w.A, w.B, a, b).equal()
}

// overlap says whether the numbers between a and b and those between c and d have one in common.
func overlap(a, b, c, d int) bool {
	return min(a, b) <= max(c, d) && min(c, d) <= max(a, b)
}

// sidesOf returns the sides of the line from a to b on which p and q lie.
func sidesOf(a, b, p, q api.Point) sides { return sides{turn(a, b, p), turn(a, b, q)} }

// equal says whether both points lie on one side of the line, and not on it.
func (s sides) equal() bool { return s == sides{1, 1} || s == sides{-1, -1} }

// turn returns to which side a path from a over b to p turns: 1 or -1, or 0 if it does not.
func turn(a, b, p api.Point) int {
	product := (b.X-a.X)*(p.Y-a.Y) - (b.Y-a.Y)*(p.X-a.X)
	switch {
	case product > 0:
		return 1
	case product < 0:
		return -1
	}
	return 0
}
