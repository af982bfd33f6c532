package geometry_test

import (
	"math"
	"math/rand"
	"testing"

	"hopmesh/api"
	"hopmesh/geometry"
)

// wall returns a wall that lets half of the power through.
func wall(ax, ay, bx, by int) api.Wall {
	return api.Wall{A: api.Point{X: ax, Y: ay}, B: api.Point{X: bx, Y: by}, Factor: 500}
}

// point returns a point.
func point(x, y int) api.Point { return api.Point{X: x, Y: y} }

// views returns a path and a wall seen from all sides: each of them in both directions, both exchanged, with exchanged axes, and mirrored.
func views(a, b, c, d api.Point) [][4]api.Point {
	list := [][4]api.Point{{a, b, c, d}}
	add := func(change func(v [4]api.Point) [4]api.Point) {
		for _, v := range list {
			list = append(list, change(v))
		}
	}
	each := func(change func(p api.Point) api.Point) func(v [4]api.Point) [4]api.Point {
		return func(v [4]api.Point) [4]api.Point {
			for i := range v {
				v[i] = change(v[i])
			}
			return v
		}
	}
	add(func(v [4]api.Point) [4]api.Point { return [4]api.Point{v[1], v[0], v[2], v[3]} })
	add(func(v [4]api.Point) [4]api.Point { return [4]api.Point{v[0], v[1], v[3], v[2]} })
	add(func(v [4]api.Point) [4]api.Point { return [4]api.Point{v[2], v[3], v[0], v[1]} })
	add(each(func(p api.Point) api.Point { return point(p.Y, p.X) }))
	add(each(func(p api.Point) api.Point { return point(-p.X, p.Y) }))
	return list
}

func TestCrosses(t *testing.T) {
	for _, c := range []struct {
		name       string
		a, b, c, d api.Point
		want       bool
	}{
		{"example: crossed", point(0, 0), point(40, 0), point(20, -10), point(20, 10), true},
		{"example: behind the end", point(40, 0), point(40, 5), point(20, -10), point(20, 10), false},
		{"example: beside the path", point(0, 0), point(40, 0), point(20, 1), point(20, 10), false},
		{"an X", point(0, 0), point(10, 10), point(0, 10), point(10, 0), true},
		{"a T", point(0, 0), point(10, 0), point(5, 0), point(5, 10), true},
		{"a slanted T", point(0, 0), point(9, 6), point(6, 4), point(0, 10), true},
		{"beside a slanted T", point(0, 0), point(9, 6), point(6, 5), point(0, 10), false},
		{"an L", point(0, 0), point(10, 0), point(10, 0), point(10, 10), true},
		{"an L with a gap", point(0, 0), point(10, 0), point(11, 0), point(11, 10), false},
		{"a V", point(0, 0), point(5, 10), point(5, 10), point(10, 0), true},
		{"a V with a gap", point(0, 0), point(5, 10), point(6, 10), point(10, 0), false},
		{"parallel", point(0, 0), point(10, 10), point(1, 0), point(11, 10), false},
		{"extents overlap, the line does not meet the segment", point(0, 0), point(10, 10), point(6, 5), point(9, 2), false},
		{"extents overlap, neither line meets the other segment", point(0, 0), point(4, 10), point(2, 2), point(3, 4), false},
		{"a steep wall", point(0, 0), point(3, 3), point(2, 0), point(3, 10), true},
		{"almost through the end", point(0, 0), point(20000, 19999), point(10000, 9999), point(20000, 0), false},
		{"through the end of a long wall", point(0, 0), point(20000, 20000), point(10000, 10000), point(20000, 0), true},

		{"on one line, apart", point(0, 0), point(4, 4), point(5, 5), point(9, 9), false},
		{"on one line, touching", point(0, 0), point(5, 5), point(5, 5), point(9, 9), true},
		{"on one line, overlapping", point(0, 0), point(6, 6), point(5, 5), point(9, 9), true},
		{"on one line, within", point(0, 0), point(9, 9), point(2, 2), point(5, 5), true},
		{"on one line, within, from one end", point(0, 0), point(9, 9), point(0, 0), point(5, 5), true},
		{"the same", point(0, 0), point(9, 6), point(0, 0), point(9, 6), true},
		{"on one axis, apart", point(0, 3), point(4, 3), point(5, 3), point(9, 3), false},
		{"on one axis, touching", point(0, 3), point(5, 3), point(5, 3), point(9, 3), true},
		{"on one axis, within", point(0, 3), point(9, 3), point(4, 3), point(5, 3), true},
		{"on lines side by side", point(0, 3), point(9, 3), point(0, 4), point(9, 4), false},

		{"a point that is an end", point(7, 7), point(7, 7), point(7, 7), point(9, 0), true},
		{"a point within", point(3, 2), point(3, 2), point(0, 0), point(9, 6), true},
		{"a point beside", point(3, 3), point(3, 3), point(0, 0), point(9, 6), false},
		{"a point on the line behind the end", point(12, 8), point(12, 8), point(0, 0), point(9, 6), false},
		{"a point on the axis behind the end", point(10, 0), point(10, 0), point(0, 0), point(9, 0), false},
		{"two equal points", point(4, 4), point(4, 4), point(4, 4), point(4, 4), true},
		{"two points", point(4, 4), point(4, 4), point(4, 5), point(4, 5), false},
		{"two points far apart", point(0, 0), point(0, 0), point(9, 9), point(9, 9), false},

		{"corner to corner", point(-20000, -20000), point(20000, 20000), point(-20000, 20000), point(20000, -20000), true},
		{"corner to corner, one beside the other", point(-20000, -20000), point(20000, 20000), point(-20000, -19999), point(19999, 20000), false},
		{"corner to corner, touching in the corner", point(-20000, -20000), point(20000, 20000), point(20000, 20000), point(20000, -20000), true},
		{"corner to corner, one step from the middle", point(-20000, -20000), point(20000, 20000), point(1, 0), point(20000, -20000), false},
		{"corner to corner, to the middle", point(-20000, -20000), point(20000, 20000), point(0, 0), point(20000, -20000), true},
		{"opposite sides", point(-20000, -20000), point(-20000, 20000), point(20000, -20000), point(20000, 20000), false},
	} {
		for _, v := range views(c.a, c.b, c.c, c.d) {
			w := api.Wall{A: v[2], B: v[3], Factor: 500}
			if got := geometry.Crosses(v[0], v[1], w); got != c.want {
				t.Errorf("%s: Crosses(%v, %v, %v) = %t", c.name, v[0], v[1], w, got)
			}
		}
	}
}

func TestCrossesWhateverTheFactor(t *testing.T) {
	for _, factor := range []int{math.MinInt, -1, 0, 1, 1000, 1001, math.MaxInt} {
		w := wall(20, -10, 20, 10)
		w.Factor = factor
		if !geometry.Crosses(point(0, 0), point(40, 0), w) || geometry.Crosses(point(40, 0), point(40, 5), w) {
			t.Errorf("the factor %d matters", factor)
		}
	}
}

// meet says whether two segments in a square of the given size have a point in common. It tries all points of the first one whose parameter is a fraction with a denominator that can occur.
func meet(a, b, c, d api.Point, size int) bool {
	for den := 1; den <= 2*size*size; den++ {
		for num := 0; num <= den; num++ {
			// the point of the first segment, seen from c, times den
			x := den*(a.X-c.X) + num*(b.X-a.X)
			y := den*(a.Y-c.Y) + num*(b.Y-a.Y)
			dx, dy := d.X-c.X, d.Y-c.Y
			dot := x*dx + y*dy
			if dx == 0 && dy == 0 && (x != 0 || y != 0) {
				continue
			}
			if x*dy == y*dx && dot >= 0 && dot <= den*(dx*dx+dy*dy) {
				return true
			}
		}
	}
	return false
}

func TestCrossesAllSmallSegments(t *testing.T) {
	const size = 2
	var points []api.Point
	for x := range size + 1 {
		for y := range size + 1 {
			points = append(points, point(x, y))
		}
	}
	for _, a := range points {
		for _, b := range points {
			for _, c := range points {
				for _, d := range points {
					if got := geometry.Crosses(a, b, api.Wall{A: c, B: d}); got != meet(a, b, c, d, size) {
						t.Errorf("Crosses(%v, %v, %v to %v) = %t", a, b, c, d, got)
					}
				}
			}
		}
	}
}

func TestCrossesSomeSegments(t *testing.T) {
	const size = 6
	r := rand.New(rand.NewSource(1))
	some := func() api.Point { return point(r.Intn(size+1), r.Intn(size+1)) }
	count := [2]int{}
	for range 3000 {
		a, b, c, d := some(), some(), some(), some()
		want := meet(a, b, c, d, size)
		if want {
			count[1]++
		} else {
			count[0]++
		}
		if got := geometry.Crosses(a, b, api.Wall{A: c, B: d}); got != want {
			t.Errorf("Crosses(%v, %v, %v to %v) = %t", a, b, c, d, got)
		}
	}
	if count[0] < 100 || count[1] < 100 {
		t.Errorf("%d segments do not cross, and %d do", count[0], count[1])
	}
}

func TestCrossesAndSquareKeepWhenPointsAreMoved(t *testing.T) {
	r := rand.New(rand.NewSource(2))
	some := func() api.Point { return point(r.Intn(21)-10, r.Intn(21)-10) }
	for range 5000 {
		a, b, c, d := some(), some(), some(), some()
		want, square := geometry.Crosses(a, b, api.Wall{A: c, B: d}), geometry.Square(a, b)
		dx, dy := r.Intn(39981)-19990, r.Intn(39981)-19990
		for _, v := range views(a, b, c, d) {
			for i := range v {
				v[i] = point(v[i].X+dx, v[i].Y+dy)
			}
			if got := geometry.Crosses(v[0], v[1], api.Wall{A: v[2], B: v[3]}); got != want {
				t.Fatalf("%v: Crosses is %t, moved by (%d, %d) %t", v, want, dx, dy, got)
			}
		}
		if got := geometry.Square(point(b.Y+dy, b.X+dx), point(a.Y+dy, a.X+dx)); got != square {
			t.Fatalf("%v, %v: Square is %d, moved %d", a, b, square, got)
		}
	}
}

func TestSquare(t *testing.T) {
	for _, c := range []struct {
		a, b api.Point
		want int
	}{
		{point(0, 0), point(0, 0), 0}, {point(0, 0), point(3, 4), 25}, {point(30, 0), point(0, 0), 900}, {point(7, 5), point(7, 9), 16}, {point(-3, 0), point(1, -3), 25},
		{point(-20000, -20000), point(-20000, -20000), 0}, {point(-20000, -20000), point(20000, 20000), 3200000000}, {point(-20000, 20000), point(20000, -20000), 3200000000},
		{point(-20000, 0), point(20000, 1), 1600000001}, {point(0, 0), point(10000, 10000), 200000000},
	} {
		for _, v := range views(c.a, c.b, c.a, c.b) {
			if got := geometry.Square(v[0], v[1]); got != c.want {
				t.Errorf("Square(%v, %v) = %d, want %d", v[0], v[1], got, c.want)
			}
		}
	}
}

func TestSquareAndCrossesOfAnyNumbers(t *testing.T) {
	numbers := []int{math.MinInt, math.MinInt + 1, -1, 0, 1, math.MaxInt - 1, math.MaxInt}
	for _, x := range numbers {
		for _, y := range numbers {
			a, b := point(x, y), point(y, x)
			geometry.Square(a, b)
			geometry.Crosses(a, b, wall(y, y, x, x))
			if geometry.Square(a, a) != 0 || !geometry.Crosses(a, a, wall(x, y, x, y)) {
				t.Errorf("%v differs from itself", a)
			}
		}
	}
}
