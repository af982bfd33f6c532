package geometry_test

import (
	"math"
	"math/big"
	"math/rand"
	"reflect"
	"slices"
	"testing"

	"hopmesh/api"
	"hopmesh/geometry"
)

const most = api.MaxPower

// row returns the site of the chapter's example: nodes in a row, with 90000 units each.
func row(walls ...api.Wall) api.Site {
	return api.Site{
		Nodes: []api.Point{point(0, 0), point(30, 0), point(90, 0)}, Powers: []int{90000, 90000, 90000}, Walls: walls,
		Exponent: 2, Noise: 10, Threshold: 2000,
	}
}

// with returns a copy of the row with a change.
func with(change func(s *api.Site)) api.Site {
	s := row()
	change(&s)
	return s
}

// full returns a site with all that a site can have, at the ends of its bounds.
func full() api.Site {
	s := api.Site{Exponent: 4, Noise: most, Threshold: api.MaxThresh}
	for range api.MaxNodes {
		s.Nodes = append(s.Nodes, point(0, 10000))
		s.Powers = append(s.Powers, most)
		s.Walls = append(s.Walls, api.Wall{A: point(10000, 0), B: point(10000, 10000), Factor: 1000})
	}
	return s
}

// copied returns a copy of a site that shares no memory with it.
func copied(s api.Site) api.Site {
	s.Nodes, s.Powers, s.Walls = slices.Clone(s.Nodes), slices.Clone(s.Powers), slices.Clone(s.Walls)
	return s
}

func TestCheckValid(t *testing.T) {
	for name, change := range map[string]func(s *api.Site){
		"the row":                   func(s *api.Site) {},
		"two nodes":                 func(s *api.Site) { s.Nodes, s.Powers = s.Nodes[:2], s.Powers[:2] },
		"all that it can have":      func(s *api.Site) { *s = full() },
		"nodes at one point":        func(s *api.Site) { s.Nodes[1] = s.Nodes[0] },
		"the least coordinates":     func(s *api.Site) { s.Nodes[1] = point(0, 0) },
		"the greatest coordinates":  func(s *api.Site) { s.Nodes[1] = point(10000, 10000) },
		"no power":                  func(s *api.Site) { s.Powers[2] = 0 },
		"the greatest power":        func(s *api.Site) { s.Powers[2] = most },
		"the exponent 4":            func(s *api.Site) { s.Exponent = 4 },
		"the least threshold":       func(s *api.Site) { s.Threshold = 1000 },
		"the greatest threshold":    func(s *api.Site) { s.Threshold = 100000 },
		"the least noise":           func(s *api.Site) { s.Noise = 1 },
		"the greatest noise":        func(s *api.Site) { s.Noise = most },
		"an empty list of walls":    func(s *api.Site) { s.Walls = []api.Wall{} },
		"a wall that is a point":    func(s *api.Site) { s.Walls = []api.Wall{wall(5, 5, 5, 5)} },
		"a wall with all it can":    func(s *api.Site) { s.Walls = []api.Wall{{A: point(0, 10000), B: point(10000, 0), Factor: 1000}} },
		"a wall that lets nothing":  func(s *api.Site) { s.Walls = []api.Wall{{A: point(0, 0), B: point(0, 0), Factor: 0}} },
		"one wall twice":            func(s *api.Site) { s.Walls = []api.Wall{wall(1, 2, 3, 4), wall(1, 2, 3, 4)} },
		"31 nodes":                  func(s *api.Site) { *s = full(); s.Nodes, s.Powers = s.Nodes[:31], s.Powers[:31] },
		"the greatest number walls": func(s *api.Site) { s.Walls = full().Walls },
	} {
		if e := geometry.Check(with(change)); e != api.OK {
			t.Errorf("%s: error %d", name, e)
		}
	}
}

// flawed returns sites that are not valid, each with one fault.
func flawed() map[string]api.Site {
	sites := map[string]api.Site{"the zero site": {}}
	for name, change := range map[string]func(s *api.Site){
		"no node":           func(s *api.Site) { s.Nodes, s.Powers = nil, nil },
		"one node":          func(s *api.Site) { s.Nodes, s.Powers = s.Nodes[:1], s.Powers[:1] },
		"33 nodes":          func(s *api.Site) { *s = full(); s.Nodes, s.Powers = append(s.Nodes, point(1, 1)), append(s.Powers, 1) },
		"no powers":         func(s *api.Site) { s.Powers = nil },
		"fewer powers":      func(s *api.Site) { s.Powers = s.Powers[:2] },
		"more powers":       func(s *api.Site) { s.Powers = append(s.Powers, 1) },
		"a power below 0":   func(s *api.Site) { s.Powers[0] = -1 },
		"a power too great": func(s *api.Site) { s.Powers[2] = most + 1 },
		"x below 0":         func(s *api.Site) { s.Nodes[0].X = -1 },
		"y below 0":         func(s *api.Site) { s.Nodes[2].Y = -1 },
		"x too great":       func(s *api.Site) { s.Nodes[2].X = 10001 },
		"y too great":       func(s *api.Site) { s.Nodes[1].Y = 10001 },
		"33 walls":          func(s *api.Site) { s.Walls = append(full().Walls, wall(1, 1, 1, 1)) },
		"wall, A.X below":   func(s *api.Site) { s.Walls = []api.Wall{wall(-1, 1, 1, 1)} },
		"wall, A.Y below":   func(s *api.Site) { s.Walls = []api.Wall{wall(1, -1, 1, 1)} },
		"wall, B.X below":   func(s *api.Site) { s.Walls = []api.Wall{wall(1, 1, -1, 1)} },
		"wall, B.Y below":   func(s *api.Site) { s.Walls = []api.Wall{wall(1, 1, 1, -1)} },
		"wall, A.X beyond":  func(s *api.Site) { s.Walls = []api.Wall{wall(1, 1, 1, 1), wall(10001, 1, 1, 1)} },
		"wall, A.Y beyond":  func(s *api.Site) { s.Walls = []api.Wall{wall(1, 1, 1, 1), wall(1, 10001, 1, 1)} },
		"wall, B.X beyond":  func(s *api.Site) { s.Walls = []api.Wall{wall(1, 1, 1, 1), wall(1, 1, 10001, 1)} },
		"wall, B.Y beyond":  func(s *api.Site) { s.Walls = []api.Wall{wall(1, 1, 1, 1), wall(1, 1, 1, 10001)} },
		"factor below 0":    func(s *api.Site) { s.Walls = []api.Wall{{Factor: -1}} },
		"factor too great":  func(s *api.Site) { s.Walls = []api.Wall{{Factor: 1001}} },
		"exponent 0":        func(s *api.Site) { s.Exponent = 0 },
		"exponent 1":        func(s *api.Site) { s.Exponent = 1 },
		"exponent 3":        func(s *api.Site) { s.Exponent = 3 },
		"exponent 5":        func(s *api.Site) { s.Exponent = 5 },
		"exponent -2":       func(s *api.Site) { s.Exponent = -2 },
		"threshold below":   func(s *api.Site) { s.Threshold = 999 },
		"threshold beyond":  func(s *api.Site) { s.Threshold = 100001 },
		"no noise":          func(s *api.Site) { s.Noise = 0 },
		"noise below 0":     func(s *api.Site) { s.Noise = -1 },
		"noise too great":   func(s *api.Site) { s.Noise = most + 1 },
		"extreme numbers": func(s *api.Site) {
			s.Nodes[0] = point(math.MinInt, math.MaxInt)
			s.Powers[0], s.Noise, s.Threshold = math.MaxInt, math.MinInt, math.MaxInt
		},
	} {
		sites[name] = with(change)
	}
	return sites
}

func TestNotValid(t *testing.T) {
	for name, s := range flawed() {
		if e := geometry.Check(s); e != api.ErrArg {
			t.Errorf("%s: Check: error %d", name, e)
		}
		// the indices, points and powers are wrong as well in every second call: the site comes first
		for _, n := range []int{0, -1} {
			if p, e := geometry.At(s, point(n, 0), n, point(0, n)); p != 0 || e != api.ErrArg {
				t.Errorf("%s: At: %d, error %d", name, p, e)
			}
			if p, e := geometry.Between(s, n, n); p != 0 || e != api.ErrArg {
				t.Errorf("%s: Between: %d, error %d", name, p, e)
			}
			if i, e := geometry.Nearest(s, point(n, n)); i != 0 || e != api.ErrArg {
				t.Errorf("%s: Nearest: %d, error %d", name, i, e)
			}
			if l, e := geometry.Hears(s, n); len(l) != 0 || e != api.ErrArg {
				t.Errorf("%s: Hears: %v, error %d", name, l, e)
			}
		}
		if m, e := geometry.Table(s); len(m) != 0 || e != api.ErrArg {
			t.Errorf("%s: Table: %v, error %d", name, m, e)
		}
	}
}

func TestAt(t *testing.T) {
	half := wall(20, 0, 20, 10)
	quarter := api.Wall{A: point(20, 0), B: point(20, 10), Factor: 250}
	for _, c := range []struct {
		name     string
		exponent int
		walls    []api.Wall
		power    int
		from, to api.Point
		want     int
	}{
		{"example", 2, nil, 90000, point(0, 0), point(30, 0), 10000},
		{"example", 4, nil, 90000, point(0, 0), point(30, 0), 1111},
		{"example, a wall", 2, []api.Wall{quarter}, 90000, point(0, 0), point(30, 0), 2500},
		{"example, a wall", 4, []api.Wall{quarter}, 90000, point(0, 0), point(30, 0), 277},

		{"no distance", 2, nil, 777, point(5, 5), point(5, 5), 777}, {"no distance", 4, nil, 777, point(5, 5), point(5, 5), 777},
		{"1", 2, nil, 777, point(5, 5), point(6, 5), 777}, {"1", 4, nil, 777, point(5, 5), point(6, 5), 777},
		{"9", 2, nil, 777, point(0, 0), point(9, 0), 777}, {"9", 4, nil, 777, point(0, 0), point(0, 9), 777},
		{"10", 2, nil, 777, point(0, 0), point(6, 8), 777}, {"10", 4, nil, 777, point(0, 0), point(10, 0), 777},
		{"a bit more than 10", 2, nil, 777, point(0, 0), point(10, 1), 769}, {"a bit more than 10", 4, nil, 777, point(0, 0), point(10, 1), 761},
		{"11", 2, nil, 777, point(0, 0), point(11, 0), 642}, {"11", 4, nil, 777, point(0, 0), point(0, 11), 530},
		{"11, two roundings", 4, nil, 3, point(0, 0), point(11, 0), 1}, {"11, one rounding", 2, nil, 3, point(0, 0), point(11, 0), 2},
		{"20, two roundings", 4, nil, 19, point(0, 0), point(20, 0), 1}, {"20, no rounding before the end", 2, nil, 19, point(0, 0), point(20, 0), 4},

		{"no power", 2, nil, 0, point(0, 0), point(30, 0), 0}, {"no power", 4, nil, 0, point(0, 0), point(0, 0), 0}, {"no power, a wall", 2, []api.Wall{half}, 0, point(0, 0), point(30, 0), 0},
		{"the greatest power", 2, nil, most, point(3, 3), point(3, 3), most}, {"the greatest power", 4, nil, most, point(3, 3), point(3, 13), most},
		{"the greatest power at 11", 2, nil, most, point(0, 0), point(11, 0), 56792955980}, {"the greatest power at 11", 4, nil, most, point(0, 0), point(11, 0), 46936327256},
		{"from corner to corner", 2, nil, most, point(0, 0), point(10000, 10000), 34359}, {"from corner to corner", 4, nil, most, point(0, 10000), point(10000, 0), 0},
		{"the greatest power, a wall", 2, []api.Wall{{A: point(5, 0), B: point(5, 0), Factor: 999}}, most, point(0, 0), point(9, 0), 68650757259},

		{"a wall beside", 2, []api.Wall{wall(20, 1, 20, 10)}, 90000, point(0, 0), point(30, 0), 10000},
		{"a wall behind", 2, []api.Wall{wall(31, 0, 31, 10)}, 90000, point(0, 0), point(30, 0), 10000},
		{"a wall at the end", 2, []api.Wall{wall(30, 0, 30, 10)}, 90000, point(0, 0), point(30, 0), 5000},
		{"a wall at the beginning", 2, []api.Wall{wall(0, 0, 0, 10)}, 90000, point(0, 0), point(30, 0), 5000},
		{"a wall along the path", 2, []api.Wall{wall(3, 0, 40, 0)}, 90000, point(0, 0), point(30, 0), 5000},
		{"a wall that is a point", 2, []api.Wall{wall(3, 0, 3, 0)}, 90000, point(0, 0), point(30, 0), 5000},
		{"a wall through one point", 2, []api.Wall{wall(0, 0, 40, 40)}, 90000, point(7, 7), point(7, 7), 45000},
		{"a wall that lets all through", 2, []api.Wall{{A: point(3, 0), B: point(3, 0), Factor: 1000}}, 90000, point(0, 0), point(30, 0), 10000},
		{"a wall that lets nothing through", 2, []api.Wall{{A: point(3, 0), B: point(3, 0), Factor: 0}}, 90000, point(0, 0), point(30, 0), 0},
		{"the wall comes behind both divisions", 4, []api.Wall{half}, 19, point(0, 0), point(20, 0), 0},
		{"one wall twice", 2, []api.Wall{half, half}, 90000, point(0, 0), point(30, 0), 2500},
		{"one wall of two", 2, []api.Wall{wall(31, 0, 31, 10), half, wall(20, 1, 20, 10)}, 90000, point(0, 0), point(30, 0), 5000},
		{"700, then 500", 2, []api.Wall{{A: point(8, 0), B: point(8, 0), Factor: 700}, wall(5, 0, 5, 0)}, 3, point(0, 0), point(10, 0), 1},
		{"500, then 700", 2, []api.Wall{wall(5, 0, 5, 0), {A: point(8, 0), B: point(8, 0), Factor: 700}}, 3, point(0, 0), point(10, 0), 0},
		{"500, then 700, from behind", 2, []api.Wall{wall(5, 0, 5, 0), {A: point(8, 0), B: point(8, 0), Factor: 700}}, 3, point(10, 0), point(0, 0), 0},
	} {
		s := row(c.walls...)
		s.Exponent = c.exponent
		if got, e := geometry.At(s, c.from, c.power, c.to); got != c.want || e != api.OK {
			t.Errorf("%s, exponent %d: %d, error %d, want %d", c.name, c.exponent, got, e, c.want)
		}
	}
}

func TestAtErrors(t *testing.T) {
	good := point(0, 10000)
	var bad []api.Point
	for _, n := range []int{-1, 10001, math.MinInt, math.MaxInt} {
		bad = append(bad, point(n, 0), point(0, n))
	}
	for _, p := range bad {
		if got, e := geometry.At(row(), p, 1, good); got != 0 || e != api.ErrRange {
			t.Errorf("from %v: %d, error %d", p, got, e)
		}
		if got, e := geometry.At(row(), good, 1, p); got != 0 || e != api.ErrRange {
			t.Errorf("to %v: %d, error %d", p, got, e)
		}
		if got, e := geometry.Nearest(row(), p); got != 0 || e != api.ErrRange {
			t.Errorf("Nearest to %v: %d, error %d", p, got, e)
		}
	}
	for _, n := range []int{-1, most + 1, math.MinInt, math.MaxInt} {
		if got, e := geometry.At(row(), good, n, good); got != 0 || e != api.ErrRange {
			t.Errorf("power %d: %d, error %d", n, got, e)
		}
	}
}

// slowly computes the power at a point with numbers of any length.
func slowly(s api.Site, from api.Point, sent int, to api.Point) int {
	m := max(geometry.Square(from, to), 100)
	left := big.NewInt(int64(sent))
	for range s.Exponent / 2 {
		left.Mul(left, big.NewInt(100))
		left.Quo(left, big.NewInt(int64(m)))
	}
	for _, w := range s.Walls {
		if geometry.Crosses(from, to, w) {
			left.Mul(left, big.NewInt(int64(w.Factor)))
			left.Quo(left, big.NewInt(1000))
		}
	}
	return int(left.Int64())
}

// somePoint returns a point, often one that is near to others.
func somePoint(r *rand.Rand) api.Point {
	size := []int{4, 40, 400, 10000}[r.Intn(4)]
	return point(r.Intn(size+1), r.Intn(size+1))
}

// someSite returns a site.
func someSite(r *rand.Rand) api.Site {
	s := api.Site{Exponent: 2 + 2*r.Intn(2), Threshold: 1000 + r.Intn(5000), Noise: 1 + r.Intn(1000)}
	for range 2 + r.Intn(5) {
		s.Nodes = append(s.Nodes, somePoint(r))
		s.Powers = append(s.Powers, r.Intn(most+1)>>r.Intn(36))
	}
	for range r.Intn(6) {
		s.Walls = append(s.Walls, api.Wall{A: somePoint(r), B: somePoint(r), Factor: r.Intn(1001)})
	}
	return s
}

func TestSomeSites(t *testing.T) {
	r := rand.New(rand.NewSource(3))
	for range 2000 {
		s := someSite(r)
		from, to, sent := somePoint(r), somePoint(r), r.Intn(most+1)
		got, e := geometry.At(s, from, sent, to)
		if want := slowly(s, from, sent, to); got != want || e != api.OK || got > sent {
			t.Fatalf("%v: At(%v, %d, %v) = %d, error %d, want %d", s, from, sent, to, got, e, want)
		}
		if back, _ := geometry.At(s, to, sent, from); back != got {
			t.Fatalf("%v: %d from %v to %v, and %d back", s, got, from, to, back)
		}
		more := copied(s)
		more.Walls = append(more.Walls, api.Wall{A: somePoint(r), B: somePoint(r), Factor: r.Intn(1001)})
		if less, _ := geometry.At(more, from, sent, to); less > got {
			t.Fatalf("%v: %d, and %d with a further wall", more, got, less)
		}
		s.Walls = nil
		here, there := geometry.Square(from, to), somePoint(r)
		clear, _ := geometry.At(s, from, sent, to)
		if other, _ := geometry.At(s, from, sent, there); here <= geometry.Square(from, there) && other > clear {
			t.Fatalf("%v: %d units from %v are %d at %v, and %d at %v", s, sent, from, clear, to, other, there)
		}
	}
}

func TestBetweenTableAndHears(t *testing.T) {
	r := rand.New(rand.NewSource(4))
	sites := []api.Site{row(), row(wall(20, 0, 20, 10)), full()}
	for range 300 {
		sites = append(sites, someSite(r))
	}
	heard, missed := 0, 0
	for _, s := range sites {
		table, e := geometry.Table(s)
		if e != api.OK || len(table) != len(s.Nodes) {
			t.Fatalf("%v: the table %v, error %d", s, table, e)
		}
		for b := range s.Nodes {
			var hears []int
			for a := range s.Nodes {
				want := slowly(s, s.Nodes[a], s.Powers[a], s.Nodes[b])
				if a == b {
					want = 0
				}
				got, e := geometry.Between(s, a, b)
				if got != want || e != api.OK || len(table[a]) != len(s.Nodes) || table[a][b] != want {
					t.Fatalf("%v: Between(%d, %d) = %d, error %d, the table is %v, want %d", s, a, b, got, e, table, want)
				}
				if 1000*want >= s.Threshold*s.Noise {
					hears = append(hears, a)
				} else {
					missed++
				}
			}
			heard += len(hears)
			if got, e := geometry.Hears(s, b); !slices.Equal(got, hears) || e != api.OK {
				t.Fatalf("%v: Hears(%d) = %v, error %d, want %v", s, b, got, e, hears)
			}
		}
	}
	if heard < 100 || missed < 100 {
		t.Errorf("%d powers are received, %d are not", heard, missed)
	}
}

func TestBetween(t *testing.T) {
	near := with(func(s *api.Site) { s.Nodes[1] = s.Nodes[0]; s.Powers[1] = 5 })
	for _, c := range []struct {
		s    api.Site
		a, b int
		want int
		e    api.Errno
	}{
		{row(), 0, 1, 10000, api.OK}, {row(), 1, 0, 10000, api.OK}, {row(), 0, 2, 1111, api.OK}, {row(), 2, 1, 2500, api.OK},
		{row(), 0, 0, 0, api.OK}, {row(), 2, 2, 0, api.OK},
		{near, 0, 1, 90000, api.OK}, {near, 1, 0, 5, api.OK}, {near, 1, 1, 0, api.OK},
		{row(), -1, 0, 0, api.ErrNotFound}, {row(), 0, -1, 0, api.ErrNotFound}, {row(), 3, 0, 0, api.ErrNotFound}, {row(), 0, 3, 0, api.ErrNotFound},
		{row(), -1, -1, 0, api.ErrNotFound}, {row(), 3, 3, 0, api.ErrNotFound}, {row(), math.MinInt, math.MaxInt, 0, api.ErrNotFound},
		{full(), 0, 31, most, api.OK}, {full(), 31, 32, 0, api.ErrNotFound},
	} {
		if got, e := geometry.Between(c.s, c.a, c.b); got != c.want || e != c.e {
			t.Errorf("Between(%d, %d) = %d, error %d, want %d, error %d", c.a, c.b, got, e, c.want, c.e)
		}
	}
}

func TestTable(t *testing.T) {
	want := [][]int{{0, 10000, 1111}, {10000, 0, 2500}, {1111, 2500, 0}}
	got, e := geometry.Table(row())
	if !reflect.DeepEqual(got, want) || e != api.OK {
		t.Errorf("the table is %v, error %d", got, e)
	}
	other := with(func(s *api.Site) { s.Powers = []int{90000, 0, 900} })
	if got, e := geometry.Table(other); !reflect.DeepEqual(got, [][]int{{0, 10000, 1111}, {0, 0, 0}, {11, 25, 0}}) || e != api.OK {
		t.Errorf("the table is %v, error %d", got, e)
	}
	// no rows share memory
	got[0] = append(got[0], 9)
	got[1][0] = 8
	if again, _ := geometry.Table(row()); !reflect.DeepEqual(again, want) || got[1][1] != 0 {
		t.Errorf("the table is %v afterwards, the changed one %v", again, got)
	}
}

func TestNearest(t *testing.T) {
	square := with(func(s *api.Site) {
		s.Nodes = []api.Point{point(100, 0), point(0, 0), point(0, 100), point(100, 100)}
		s.Powers = make([]int, 4)
	})
	for _, c := range []struct {
		s    api.Site
		p    api.Point
		want int
	}{
		{row(), point(0, 0), 0}, {row(), point(14, 0), 0}, {row(), point(15, 0), 0}, {row(), point(16, 0), 1}, {row(), point(59, 7), 1}, {row(), point(60, 7), 1}, {row(), point(61, 7), 2},
		{row(), point(10000, 10000), 2}, {row(), point(0, 10000), 0},
		{square, point(50, 50), 0}, {square, point(50, 51), 2}, {square, point(49, 50), 1}, {square, point(51, 51), 3}, {square, point(50, 0), 0}, {square, point(0, 50), 1}, {square, point(50, 100), 2}, {square, point(100, 50), 0},
		// the walls, and the powers, which are 0, do not matter
		{row(wall(5, 0, 5, 0)), point(10, 0), 0}, {full(), point(3, 3), 0},
	} {
		if got, e := geometry.Nearest(c.s, c.p); got != c.want || e != api.OK {
			t.Errorf("Nearest to %v of %v = %d, error %d, want %d", c.p, c.s.Nodes, got, e, c.want)
		}
	}
}

func TestHears(t *testing.T) {
	for _, c := range []struct {
		name   string
		change func(s *api.Site)
		node   int
		want   []int
	}{
		{"all", func(s *api.Site) {}, 0, []int{1, 2}}, {"all", func(s *api.Site) {}, 1, []int{0, 2}}, {"all", func(s *api.Site) {}, 2, []int{0, 1}},
		// node 0 has 10000 units at node 1, and node 2 has 2500
		{"just received", func(s *api.Site) { s.Noise = 1250 }, 1, []int{0, 2}},
		{"more noise", func(s *api.Site) { s.Noise = 1251 }, 1, []int{0}},
		{"a greater threshold", func(s *api.Site) { s.Noise, s.Threshold = 1250, 2001 }, 1, []int{0}},
		{"one unit less", func(s *api.Site) { s.Noise, s.Powers[2] = 1250, 89999 }, 1, []int{0}},
		{"none", func(s *api.Site) { s.Noise = 5001 }, 1, nil},
		{"the first one is just received", func(s *api.Site) { s.Noise = 5000 }, 1, []int{0}},
		{"one unit is received", func(s *api.Site) { s.Noise, s.Threshold, s.Powers = 1, 1000, []int{9, 90000, 36} }, 1, []int{0, 2}},
		{"nothing is not", func(s *api.Site) { s.Noise, s.Threshold, s.Powers = 1, 1000, []int{8, 90000, 35} }, 1, nil},
		{"the power of the node itself", func(s *api.Site) { s.Powers[1] = 0 }, 1, []int{0, 2}},
	} {
		if got, e := geometry.Hears(with(c.change), c.node); !slices.Equal(got, c.want) || e != api.OK {
			t.Errorf("%s: Hears(%d) = %v, error %d, want %v", c.name, c.node, got, e, c.want)
		}
	}
	for _, node := range []int{-1, 3, math.MinInt, math.MaxInt} {
		if got, e := geometry.Hears(row(), node); len(got) != 0 || e != api.ErrNotFound {
			t.Errorf("Hears(%d) = %v, error %d", node, got, e)
		}
	}
}

func TestPowersKeepWhenAllIsMoved(t *testing.T) {
	r := rand.New(rand.NewSource(5))
	small := func() api.Point { return point(r.Intn(50), r.Intn(50)) }
	for range 300 {
		s := someSite(r)
		for i := range s.Nodes {
			s.Nodes[i] = small()
		}
		for i := range s.Walls {
			s.Walls[i].A, s.Walls[i].B = small(), small()
		}
		want, _ := geometry.Table(s)
		dx, dy := r.Intn(9951), r.Intn(9951)
		move := func(p api.Point) api.Point { return point(p.Y+dx, p.X+dy) }
		for i := range s.Nodes {
			s.Nodes[i] = move(s.Nodes[i])
		}
		for i := range s.Walls {
			s.Walls[i].A, s.Walls[i].B = move(s.Walls[i].B), move(s.Walls[i].A)
		}
		if got, e := geometry.Table(s); !reflect.DeepEqual(got, want) || e != api.OK {
			t.Fatalf("%v: the table is %v, error %d, want %v", s, got, e, want)
		}
	}
}

func TestArgumentsAreKept(t *testing.T) {
	s := row(wall(20, 0, 20, 10), api.Wall{A: point(25, 0), B: point(25, 9), Factor: 600})
	want := copied(s)
	geometry.Check(s)
	geometry.At(s, point(9, 9), 1000, point(30, 0))
	geometry.Between(s, 0, 1)
	geometry.Table(s)
	geometry.Nearest(s, point(50, 50))
	geometry.Hears(s, 1)
	if !reflect.DeepEqual(s, want) {
		t.Errorf("the site is %v afterwards", s)
	}
}
