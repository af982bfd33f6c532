package celltable_test

import (
	"math/rand"
	"slices"
	"testing"

	"hopmesh/api"
	"hopmesh/celltable"
)

// randomTable returns a right table of a node.
func randomTable(r *rand.Rand, node, length int) api.Table {
	t, sparse := table(node, length), 1+r.Intn(8)
	for slot := range length {
		peer := (node + 1 + r.Intn(31)) % 32
		for _, c := range []api.TableCell{control(slot, r.Intn(16), r.Intn(2) == 0, peer, r.Intn(3)), agreed(slot, r.Intn(16), r.Intn(2) == 0, peer), shared(slot, r.Intn(16))} {
			if r.Intn(sparse) == 0 && len(t.Cells) < api.MaxCells {
				t.Cells = append(t.Cells, c)
			}
		}
	}
	return t
}

// randomMask returns a mask for a length.
func randomMask(r *rand.Rand, length int) api.Free {
	f := make(api.Free, length)
	for slot := range f {
		f[slot] = r.Intn(65536) & r.Intn(65536) & r.Intn(65536) & r.Intn(65536)
	}
	return f
}

// randomLength returns a length, often a short one.
func randomLength(r *rand.Rand) int {
	if r.Intn(10) == 0 {
		return 1 + r.Intn(512)
	}
	return 1 + r.Intn(12)
}

// inForce returns the cell in force, found by going over all cells.
func inForce(t api.Table, slot int) (api.TableCell, bool) {
	for kind := api.CellControl; kind <= api.CellShared; kind++ {
		for _, c := range t.Cells {
			if c.Slot == slot%t.Length && c.Kind == kind {
				return c, true
			}
		}
	}
	return api.TableCell{}, false
}

// fits says whether a place fits, by going over all cells.
func fits(t api.Table, f api.Free, s api.Spot) bool {
	for _, c := range t.Cells {
		if c.Slot == s.Slot {
			return false
		}
	}
	return f[s.Slot]>>s.Offset%2 == 1
}

func TestRandomTables(t *testing.T) {
	r := rand.New(rand.NewSource(9))
	found := 0
	for range 1500 {
		x := randomTable(r, r.Intn(32), randomLength(r))
		if e := celltable.Check(x); e != api.OK {
			t.Fatalf("%v: error %d", x, e)
		}
		for slot := range 2 * x.Length {
			want, some := inForce(x, slot)
			if c, ok := celltable.At(x, slot); c != want || ok != some {
				t.Fatalf("%v, slot %d: %v, %v", x, slot, c, ok)
			}
		}
		f := randomMask(r, x.Length)
		var spots []api.Spot
		for slot := range x.Length {
			var some []api.Spot
			for offset := range 16 {
				s := spot(slot, offset)
				if fits(x, f, s) {
					some = append(some, s)
				}
				if x.Length < 20 && celltable.Fits(x, f, s) != fits(x, f, s) {
					t.Fatalf("%v, %v, %v", x, f, s)
				}
			}
			spots = append(spots, some[:min(1, len(some))]...)
		}
		n := r.Intn(len(spots) + 2)
		if got := celltable.Candidates(x, f, n); !slices.Equal(got, spots[:min(n, len(spots))]) {
			t.Fatalf("%v, %v, %d: %v, want %v", x, f, n, got, spots)
		}
		found += len(spots)
	}
	if found < 1000 {
		t.Errorf("only %d places", found)
	}
}

// Of the cells of a random table whose order is changed, one at a wrong place is found.
func TestRandomOrders(t *testing.T) {
	r := rand.New(rand.NewSource(10))
	seen := map[api.Errno]int{}
	for range 3000 {
		x := randomTable(r, r.Intn(32), 1+r.Intn(12))
		if len(x.Cells) < 2 {
			continue
		}
		i, j := r.Intn(len(x.Cells)), r.Intn(len(x.Cells))
		x.Cells[i], x.Cells[j] = x.Cells[j], x.Cells[i]
		if r.Intn(3) == 0 {
			x.Cells[i] = x.Cells[j]
		}
		want := api.OK
		for k := range len(x.Cells) - 1 {
			if a, b := x.Cells[k], x.Cells[k+1]; 4*a.Slot+a.Kind >= 4*b.Slot+b.Kind {
				want = api.ErrOrder
			}
		}
		seen[want]++
		if e := celltable.Check(x); e != want {
			t.Fatalf("%v: error %d, want %d", x, e, want)
		}
	}
	if seen[api.OK] < 100 || seen[api.ErrOrder] < 100 {
		t.Errorf("%v", seen)
	}
}

// Removing what was added leads back, and adding what was removed as well.
func TestRemovingWhatWasAdded(t *testing.T) {
	r := rand.New(rand.NewSource(11))
	added := 0
	for range 3000 {
		x := randomTable(r, r.Intn(32), randomLength(r))
		other := randomTable(r, x.Node, x.Length)
		for _, c := range other.Cells[:min(20, len(other.Cells))] {
			taken := slices.ContainsFunc(x.Cells, func(one api.TableCell) bool { return one.Slot == c.Slot && one.Kind == c.Kind })
			more, e := add(t, x, c)
			if taken {
				if e != api.ErrConflict {
					t.Fatalf("%v, %v: error %d", x, c, e)
				}
				continue
			}
			if len(x.Cells) == 512 {
				continue
			}
			added++
			if e != api.OK || len(more.Cells) != len(x.Cells)+1 || !slices.Contains(more.Cells, c) || celltable.Check(more) != api.OK {
				t.Fatalf("%v, %v: %v, error %d", x, c, more, e)
			}
			if back, e := remove(t, more, c); !same(back, x) || e != api.OK {
				t.Fatalf("%v, %v: %v, error %d", x, c, back, e)
			}
		}
		for _, c := range x.Cells[:min(20, len(x.Cells))] {
			less, e := remove(t, x, c)
			if e != api.OK || slices.Contains(less.Cells, c) {
				t.Fatalf("%v, %v: %v, error %d", x, c, less, e)
			}
			if back, e := add(t, less, c); !same(back, x) || e != api.OK {
				t.Fatalf("%v, %v: %v, error %d", x, c, back, e)
			}
		}
	}
	if added < 1000 {
		t.Errorf("only %d were added", added)
	}
}

// randomSchedule returns a schedule, mostly one in which no node has two cells in one slot.
func randomSchedule(r *rand.Rand) api.Schedule {
	s := schedule(randomLength(r), 1+r.Intn(16))
	for range r.Intn(3 * s.Length) {
		c := cell(r.Intn(s.Length), r.Intn(s.Offsets), r.Intn(32), r.Intn(32), r.Intn(5))
		if c.From == c.To || len(s.Cells) == 512 {
			continue
		}
		meets := slices.ContainsFunc(s.Cells, func(d api.Cell) bool { return d.Slot == c.Slot && isIn(c.From, d)+isIn(c.To, d) > 0 })
		if !meets || r.Intn(20) == 0 {
			s.Cells = append(s.Cells, c)
		}
	}
	return s
}

// isIn returns 1 if a node sends or listens in a cell.
func isIn(node int, c api.Cell) int {
	if node == c.From || node == c.To {
		return 1
	}
	return 0
}

// conflicts says whether a node has two cells in one slot.
func conflicts(s api.Schedule, node int) bool {
	slots := map[int]int{}
	for _, c := range s.Cells {
		slots[c.Slot] += isIn(node, c)
	}
	for _, n := range slots {
		if n > 1 {
			return true
		}
	}
	return false
}

// Each cell of a schedule is in the tables of two nodes, once to send and once to listen, and its offset is not in the mask.
func TestRandomSchedules(t *testing.T) {
	r := rand.New(rand.NewSource(12))
	conflicting := 0
	for range 1500 {
		s := randomSchedule(r)
		tables, count := make([]api.Table, 32), 0
		for node := range tables {
			x, e := of(t, s, node)
			if conflicts(s, node) {
				conflicting++
				if !isZero(x) || e != api.ErrConflict {
					t.Fatalf("%v, node %d: %v, error %d", s, node, x, e)
				}
				continue
			}
			if e != api.OK || celltable.Check(x) != api.OK || x.Node != node || x.Length != s.Length {
				t.Fatalf("%v, node %d: %v, error %d", s, node, x, e)
			}
			tables[node], count = x, count+len(x.Cells)
		}
		whole := 0
		for _, c := range s.Cells {
			for node, mine := range map[int]api.TableCell{c.From: control(c.Slot, c.Offset, true, c.To, c.Flow), c.To: control(c.Slot, c.Offset, false, c.From, c.Flow)} {
				if conflicts(s, node) {
					continue
				}
				whole++
				if !slices.Contains(tables[node].Cells, mine) {
					t.Fatalf("%v, node %d: %v is not in %v", s, node, mine, tables[node])
				}
			}
		}
		if whole != count {
			t.Fatalf("%v: %d cells, want %d", s, count, whole)
		}
		checkMask(t, s)
	}
	if conflicting < 100 {
		t.Errorf("only %d conflicts", conflicting)
	}
}

// checkMask compares the mask of a schedule with its cells, place by place.
func checkMask(t *testing.T, s api.Schedule) {
	t.Helper()
	f, e := mask(t, s)
	if e != api.OK || len(f) != s.Length {
		t.Fatalf("%v: mask %v, error %d", s, f, e)
	}
	for slot := range s.Length {
		want := 0
		for offset := range s.Offsets {
			if !slices.ContainsFunc(s.Cells, func(c api.Cell) bool { return c.Slot == slot && c.Offset == offset }) {
				want += 1 << offset
			}
		}
		if f[slot] != want {
			t.Fatalf("%v: mask %v, slot %d, want %d", s, f, slot, want)
		}
	}
}

// Cells that are added at candidates are in force in their slots, and the tables of both nodes mirror one another as long as both have added the same places.
func TestCellsAtCandidates(t *testing.T) {
	r := rand.New(rand.NewSource(13))
	added := 0
	for range 1500 {
		length := randomLength(r)
		a, b := without(randomTable(r, 4, length), 9), without(randomTable(r, 9, length), 4)
		f := randomMask(r, length)
		for _, s := range celltable.Candidates(a, f, 1+r.Intn(12)) {
			if !celltable.Fits(a, f, s) {
				t.Fatalf("%v, %v: %v does not fit", a, f, s)
			}
			if !celltable.Fits(b, f, s) || len(a.Cells) == 512 || len(b.Cells) == 512 {
				continue
			}
			send, e := r.Intn(2) == 0, api.OK
			mine, yours := agreed(s.Slot, s.Offset, send, 9), agreed(s.Slot, s.Offset, !send, 4)
			if a, e = add(t, a, mine); e != api.OK || celltable.Mirror(a, b) || celltable.Mirror(b, a) {
				t.Fatalf("%v, %v: error %d, or they mirror one another", a, b, e)
			}
			if b, e = add(t, b, yours); e != api.OK || !celltable.Mirror(a, b) || !celltable.Mirror(b, a) {
				t.Fatalf("%v, %v: error %d, or they do not mirror one another", a, b, e)
			}
			added++
			if c, ok := celltable.At(a, s.Slot+length); c != mine || !ok {
				t.Fatalf("%v, slot %d: %v", a, s.Slot, c)
			}
			if celltable.Fits(a, f, s) {
				t.Fatalf("%v: %v still fits", a, s)
			}
		}
	}
	if added < 1000 {
		t.Errorf("only %d were added", added)
	}
}

// without returns a table without the agreed cells with a peer.
func without(t api.Table, peer int) api.Table {
	t.Cells = slices.DeleteFunc(t.Cells, func(c api.TableCell) bool { return c.Kind == api.CellAgreed && c.Peer == peer })
	return t
}

// Whatever tables and schedules are, nothing panics, and errors come alone.
func TestAnything(t *testing.T) {
	r := rand.New(rand.NewSource(14))
	number := func() int {
		l := append([]int{-2, -1, 0, 1, 2, 3, 15, 16, 31, 32, 512, 513}, far...)
		return l[r.Intn(len(l))]
	}
	random := func() api.TableCell {
		return api.TableCell{Slot: number(), Offset: number(), Kind: number(), Send: r.Intn(2) == 0, Peer: number(), Flow: number()}
	}
	for range 20000 {
		x, s, f := table(number(), number()), schedule(number(), number()), make(api.Free, r.Intn(4))
		for range r.Intn(4) {
			x.Cells = append(x.Cells, random())
			s.Cells = append(s.Cells, cell(number(), number(), number(), number(), number()))
		}
		for i := range f {
			f[i] = number()
		}
		c := random()
		add(t, x, c)
		remove(t, x, c)
		celltable.At(x, number())
		celltable.Fits(x, f, spot(number(), number()))
		celltable.Candidates(x, f, number())
		celltable.Between(x, number())
		celltable.Mirror(x, table(number(), x.Length, c))
		if y, e := of(t, s, number()); e != api.OK && !isZero(y) {
			t.Fatalf("%v: %v, error %d", s, y, e)
		}
		if g, e := mask(t, s); e != api.OK && len(g) != 0 {
			t.Fatalf("%v: %v, error %d", s, g, e)
		}
	}
}
