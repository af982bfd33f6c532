package celltable_test

import (
	"fmt"
	"math"
	"slices"
	"testing"

	"hopmesh/api"
	"hopmesh/celltable"
)

// far are numbers that no field has.
var far = []int{math.MinInt, math.MaxInt, -1 << 40, 1 << 40}

// control, agreed and shared return cells of these kinds.
func control(slot, offset int, send bool, peer, flow int) api.TableCell {
	return api.TableCell{Slot: slot, Offset: offset, Kind: api.CellControl, Send: send, Peer: peer, Flow: flow}
}

func agreed(slot, offset int, send bool, peer int) api.TableCell {
	return api.TableCell{Slot: slot, Offset: offset, Kind: api.CellAgreed, Send: send, Peer: peer, Flow: -1}
}

func shared(slot, offset int) api.TableCell {
	return api.TableCell{Slot: slot, Offset: offset, Kind: api.CellShared, Peer: -1, Flow: -1}
}

// table returns a table.
func table(node, length int, cells ...api.TableCell) api.Table {
	return api.Table{Node: node, Length: length, Cells: cells}
}

// mixed returns a right table with cells of each kind.
func mixed() api.Table {
	return table(3, 7,
		control(0, 2, false, 1, 5), control(1, 15, true, 0, 0), agreed(1, 0, true, 4), shared(1, 9),
		agreed(2, 3, false, 4), shared(2, 0), shared(4, 4), agreed(6, 1, true, 31))
}

// full returns a right table with n cells, of all kinds in each slot as long as there are any left.
func full(n int) api.Table {
	t := table(0, 512)
	for slot := 0; len(t.Cells) < n; slot++ {
		t.Cells = append(t.Cells, control(slot, 1, true, 1, 0), agreed(slot, 2, false, 2), shared(slot, 3))
	}
	t.Cells = t.Cells[:n]
	return t
}

// with returns a cell that is changed.
func with(c api.TableCell, change func(*api.TableCell)) api.TableCell {
	change(&c)
	return c
}

// same says whether two tables are equal.
func same(a, b api.Table) bool {
	return a.Node == b.Node && a.Length == b.Length && slices.Equal(a.Cells, b.Cells)
}

// isZero says whether a table is the zero value.
func isZero(t api.Table) bool { return t.Node == 0 && t.Length == 0 && len(t.Cells) == 0 }

// spare returns a table whose cells have others behind them in memory, and all of this memory.
func spare(t api.Table) (api.Table, []api.TableCell) {
	memory := slices.Concat(t.Cells, []api.TableCell{shared(-7, -7), shared(-8, -8), shared(-9, -9)})
	t.Cells = memory[:len(t.Cells)]
	return t, memory
}

// apart calls a function that changes a table, and fails if the table is modified, or if a change of the result or of the table shows in the other.
func apart(t *testing.T, before api.Table, call func(api.Table) (api.Table, api.Errno)) (api.Table, api.Errno) {
	t.Helper()
	used, memory := spare(before)
	kept := slices.Clone(memory)
	got, e := call(used)
	again, _ := call(used)
	if !slices.Equal(memory, kept) || !same(used, before) {
		t.Errorf("%v: modified", before)
	}
	want := slices.Clone(got.Cells)
	clear(memory)
	clear(again.Cells)
	if !slices.Equal(got.Cells, want) {
		t.Errorf("%v: a change shows in the result", before)
	}
	if e != api.OK && (!isZero(got) || !isZero(again)) {
		t.Errorf("%v: error %d, and %v", before, e, got)
	}
	return got, e
}

// add adds a cell.
func add(t *testing.T, before api.Table, c api.TableCell) (api.Table, api.Errno) {
	t.Helper()
	return apart(t, before, func(used api.Table) (api.Table, api.Errno) { return celltable.Add(used, c) })
}

// remove removes a cell.
func remove(t *testing.T, before api.Table, c api.TableCell) (api.Table, api.Errno) {
	t.Helper()
	return apart(t, before, func(used api.Table) (api.Table, api.Errno) { return celltable.Remove(used, c) })
}

func TestRightTables(t *testing.T) {
	for name, x := range map[string]api.Table{
		"no cell":                   table(0, 1),
		"an empty list":             {Node: 31, Length: 512, Cells: []api.TableCell{}},
		"each kind":                 mixed(),
		"least control cell":        table(1, 1, control(0, 0, false, 0, 0)),
		"greatest control cell":     table(30, 512, control(511, 15, true, 31, math.MaxInt)),
		"least agreed cell":         table(1, 1, agreed(0, 0, false, 0)),
		"greatest agreed cell":      table(30, 512, agreed(511, 15, true, 31)),
		"least shared cell":         table(1, 1, shared(0, 0)),
		"greatest shared cell":      table(30, 512, shared(511, 15)),
		"peers beside the node":     table(5, 2, agreed(0, 0, true, 4), agreed(1, 0, true, 6)),
		"all kinds in one slot":     table(0, 1, control(0, 5, true, 1, 5), agreed(0, 5, true, 1), shared(0, 5)),
		"control and shared":        table(0, 1, control(0, 1, true, 1, 5), shared(0, 0)),
		"512 cells":                 full(512),
		"falling offsets and peers": table(0, 3, agreed(0, 9, true, 9), agreed(1, 8, false, 8), agreed(2, 7, true, 7)),
		"equal but for the slot":    table(0, 3, control(0, 9, true, 9, 4), control(2, 9, true, 9, 4)),
	} {
		if e := celltable.Check(x); e != api.OK {
			t.Errorf("%s: error %d", name, e)
		}
	}
}

// limits say from where to where a number of a cell goes, and which error it is if it does not.
type limits struct {
	name        string
	of          func(*api.TableCell) *int
	least, most int
	err         api.Errno
}

// limitsOf returns the limits of the fields of a kind for a length.
func limitsOf(kind, length int) []limits {
	l := []limits{
		{"slot", func(c *api.TableCell) *int { return &c.Slot }, 0, length - 1, api.ErrRange},
		{"offset", func(c *api.TableCell) *int { return &c.Offset }, 0, 15, api.ErrRange},
	}
	peer, flow := func(c *api.TableCell) *int { return &c.Peer }, func(c *api.TableCell) *int { return &c.Flow }
	switch kind {
	case api.CellControl:
		return append(l, limits{"peer", peer, 0, 31, api.ErrRange}, limits{"flow", flow, 0, math.MaxInt, api.ErrRange})
	case api.CellAgreed:
		return append(l, limits{"peer", peer, 0, 31, api.ErrRange}, limits{"flow", flow, -1, -1, api.ErrArg})
	}
	return append(l, limits{"peer", peer, -1, -1, api.ErrArg}, limits{"flow", flow, -1, -1, api.ErrArg})
}

// numbersNear returns numbers at both ends of a range, inside and outside.
func numbersNear(least, most int) []int {
	l := slices.Concat(far, []int{-2, -1, 0, 1, least, least + 1, most - 1, most})
	if least > math.MinInt {
		l = append(l, least-1)
	}
	if most < math.MaxInt {
		l = append(l, most+1)
	}
	return l
}

// sortOf returns a cell of each kind for the node 13.
func sortOf(kind int) api.TableCell {
	return []api.TableCell{control(2, 3, true, 4, 5), agreed(2, 3, true, 4), shared(2, 3)}[kind-1]
}

// changes calls a function with cells of each kind that have one field changed, and with the error that this is.
func changes(length int, call func(name string, c api.TableCell, err api.Errno)) {
	for kind := api.CellControl; kind <= api.CellShared; kind++ {
		for _, l := range limitsOf(kind, length) {
			for _, n := range numbersNear(l.least, l.most) {
				c, err := sortOf(kind), api.OK
				*l.of(&c) = n
				if n < l.least || n > l.most {
					err = l.err
				}
				call(fmt.Sprintf("kind %d, %s %d", kind, l.name, n), c, err)
			}
		}
	}
	for kind := api.CellControl; kind <= api.CellShared; kind++ {
		for _, k := range append([]int{-1, 0, 4, 5}, far...) {
			call(fmt.Sprint("kind ", k), with(sortOf(kind), func(c *api.TableCell) { c.Kind = k }), api.ErrArg)
		}
	}
	for _, kind := range []int{api.CellControl, api.CellAgreed} {
		call("a cell with itself", with(sortOf(kind), func(c *api.TableCell) { c.Peer = 13 }), api.ErrRange)
		call("a cell that listens", with(sortOf(kind), func(c *api.TableCell) { c.Send = false }), api.OK)
	}
	call("a shared cell that sends", with(sortOf(api.CellShared), func(c *api.TableCell) { c.Send = true }), api.ErrArg)
}

func TestTheFormOfACell(t *testing.T) {
	for _, length := range []int{3, 4, 511, 512} {
		changes(length, func(name string, c api.TableCell, want api.Errno) {
			if e := celltable.Check(table(13, length, c)); e != want {
				t.Errorf("%s, length %d: error %d, want %d", name, length, e, want)
			}
			behind := table(13, length, agreed(0, 0, true, 1), c)
			if e := celltable.Check(behind); e != want && (c.Slot > 0 || want != api.OK) {
				t.Errorf("%s, length %d, behind another one: error %d, want %d", name, length, e, want)
			}
			before := table(13, length, c, agreed(0, 99, true, 1))
			if e := celltable.Check(before); want != api.OK && e != want {
				t.Errorf("%s, length %d, in front of another one: error %d, want %d", name, length, e, want)
			}
		})
	}
}

func TestNodeAndLength(t *testing.T) {
	for _, x := range []struct {
		node, length int
		want         api.Errno
	}{
		{0, 5, api.OK}, {31, 5, api.OK}, {-1, 5, api.ErrRange}, {32, 5, api.ErrRange}, {3, 1, api.OK}, {3, 512, api.OK}, {3, 0, api.ErrRange}, {3, 513, api.ErrRange}, {3, -1, api.ErrRange},
		{math.MinInt, 5, api.ErrRange}, {math.MaxInt, 5, api.ErrRange}, {3, math.MinInt, api.ErrRange}, {3, math.MaxInt, api.ErrRange},
	} {
		if e := celltable.Check(table(x.node, x.length, shared(0, 0))); e != x.want {
			t.Errorf("%v: error %d", x, e)
		}
		if e := celltable.Check(table(x.node, x.length)); e != x.want {
			t.Errorf("%v, no cell: error %d", x, e)
		}
	}
}

func TestWhichErrorOfATableIsNamed(t *testing.T) {
	many := full(513).Cells
	wrong := slices.Concat([]api.TableCell{{}}, many[:512])
	badKind, badFlow, badOffset, badPeer := api.TableCell{Slot: 1, Kind: 9}, with(agreed(1, 0, true, 1), func(c *api.TableCell) { c.Flow = 0 }), agreed(1, 16, true, 1), agreed(1, 0, true, 0)
	for name, x := range map[string]struct {
		table api.Table
		want  api.Errno
	}{
		"nothing":                     {api.Table{}, api.ErrRange},
		"node, and too many cells":    {table(32, 512, many...), api.ErrRange},
		"length, and too many cells":  {table(0, 513, many...), api.ErrRange},
		"node, and a wrong cell":      {table(-1, 5, badKind), api.ErrRange},
		"length, and a wrong cell":    {table(0, 0, badKind), api.ErrRange},
		"513 cells":                   {full(513), api.ErrTooLarge},
		"513 cells, one wrong":        {table(0, 512, wrong...), api.ErrTooLarge},
		"many equal cells":            {table(0, 512, make([]api.TableCell, 10000)...), api.ErrTooLarge},
		"kind, then offset":           {table(0, 5, badKind, badOffset), api.ErrArg},
		"offset, then kind":           {table(0, 5, badOffset, badKind), api.ErrRange},
		"peer, then flow":             {table(0, 5, badPeer, badFlow), api.ErrRange},
		"flow, then peer":             {table(0, 5, badFlow, badPeer), api.ErrArg},
		"order, then kind":            {table(0, 5, agreed(2, 0, true, 1), agreed(1, 0, true, 1), badKind), api.ErrOrder},
		"order and kind in one":       {table(0, 5, agreed(2, 0, true, 1), badKind), api.ErrArg},
		"order and offset in one":     {table(0, 5, agreed(2, 0, true, 1), badOffset), api.ErrRange},
		"kind, then order":            {table(0, 5, agreed(2, 0, true, 1), badKind, shared(0, 0)), api.ErrArg},
		"kind and offset":             {table(0, 5, api.TableCell{Kind: 4, Offset: 16}), api.ErrArg},
		"flow and slot (agreed)":      {table(0, 5, api.TableCell{Slot: 5, Kind: api.CellAgreed, Peer: 1}), api.ErrArg},
		"flow and peer (agreed)":      {table(0, 5, api.TableCell{Kind: api.CellAgreed}), api.ErrArg},
		"peer and offset (shared)":    {table(0, 5, api.TableCell{Kind: api.CellShared, Offset: -1, Flow: -1}), api.ErrArg},
		"send and slot (shared)":      {table(0, 5, api.TableCell{Kind: api.CellShared, Slot: 9, Send: true, Peer: -1, Flow: -1}), api.ErrArg},
		"shared, flow alone":          {table(0, 5, api.TableCell{Kind: api.CellShared, Peer: -1}), api.ErrArg},
		"a wrong one at last":         {table(0, 5, agreed(0, 0, true, 1), shared(0, 0), badPeer), api.ErrRange},
		"the order at last":           {table(0, 5, agreed(0, 0, true, 1), shared(0, 0), agreed(0, 1, true, 1)), api.ErrOrder},
		"slot equal to the length":    {table(0, 5, shared(5, 0)), api.ErrRange},
		"control with the flow -1":    {table(0, 5, control(0, 0, true, 1, -1)), api.ErrRange},
		"control with the peer -1":    {table(0, 5, control(0, 0, true, -1, 0)), api.ErrRange},
		"the least node, with itself": {table(0, 5, control(0, 0, true, 0, 0)), api.ErrRange},
	} {
		if e := celltable.Check(x.table); e != x.want {
			t.Errorf("%s: error %d, want %d", name, e, x.want)
		}
	}
}

// Of two cells the second one comes behind the first one just if its slot is greater, or equal and its kind greater.
func TestTheOrderOfCells(t *testing.T) {
	of := func(slot, kind, offset int) api.TableCell {
		return with(sortOf(kind), func(c *api.TableCell) { c.Slot, c.Offset = slot, offset })
	}
	for n := range 9 * 9 * 3 {
		a, b := of(n%3, 1+n/3%3, 5), of(n/9%3, 1+n/27%3, 4+n/81)
		want := api.ErrOrder
		if a.Slot < b.Slot || a.Slot == b.Slot && a.Kind < b.Kind {
			want = api.OK
		}
		if e := celltable.Check(table(13, 3, a, b)); e != want {
			t.Errorf("%v, %v: error %d, want %d", a, b, e, want)
		}
	}
}

// wrong returns tables that are not right.
func wrong() map[string]api.Table {
	return map[string]api.Table{
		"nothing":   {},
		"node":      table(32, 7, mixed().Cells...),
		"length":    table(3, 6, mixed().Cells...),
		"no length": table(3, 0, mixed().Cells...),
		"too many":  full(513),
		"order":     table(3, 7, shared(2, 0), shared(1, 0), agreed(6, 1, true, 31)),
		"twice":     table(3, 7, shared(1, 0), shared(1, 0)),
		"kind":      table(3, 7, shared(0, 0), api.TableCell{Slot: 1}, shared(2, 0)),
		"peer":      table(3, 7, agreed(0, 0, true, 3), agreed(6, 1, true, 31)),
	}
}

func TestAt(t *testing.T) {
	m := mixed()
	want := map[int]api.TableCell{0: m.Cells[0], 1: m.Cells[1], 2: m.Cells[4], 4: m.Cells[6], 6: m.Cells[7]}
	for _, first := range []int{0, 7, 14, 7000000, 7 << 40} {
		for slot := range 7 {
			c, found := want[slot]
			if got, ok := celltable.At(m, first+slot); got != c || ok != found {
				t.Errorf("slot %d: %v, %v", first+slot, got, ok)
			}
		}
	}
	// 2^63 - 1 is a multiple of 7
	if got, ok := celltable.At(m, math.MaxInt); got != m.Cells[0] || !ok {
		t.Errorf("the greatest number: %v, %v", got, ok)
	}
	for _, slot := range []int{-1, -3, -7, -8, math.MinInt, math.MinInt + 1} {
		if c, ok := celltable.At(m, slot); c != (api.TableCell{}) || ok {
			t.Errorf("slot %d: %v, %v", slot, c, ok)
		}
	}
}

func TestAtWithoutACell(t *testing.T) {
	tables := wrong()
	tables["no cell"] = table(3, 7)
	for name, x := range tables {
		for slot := range 8 {
			if c, ok := celltable.At(x, slot); c != (api.TableCell{}) || ok {
				t.Errorf("%s, slot %d: %v, %v", name, slot, c, ok)
			}
		}
	}
}

// In a full table control cells go ahead of agreed ones, and these of shared ones.
func TestWhichCellIsInForce(t *testing.T) {
	cells := []api.TableCell{control(0, 9, true, 1, 5), agreed(0, 5, true, 2), shared(0, 1)}
	for set := 1; set < 8; set++ {
		var l []api.TableCell
		for i, c := range cells {
			if set&(1<<i) != 0 {
				l = append(l, c)
			}
		}
		if c, ok := celltable.At(table(0, 1, l...), 44); c != l[0] || !ok {
			t.Errorf("%v: %v, %v", l, c, ok)
		}
	}
	f := full(512)
	for slot := range 512 {
		c, ok := celltable.At(f, slot+512)
		if ok != (slot < 171) || ok && c != control(slot, 1, true, 1, 0) {
			t.Errorf("slot %d: %v, %v", slot, c, ok)
		}
	}
}

func TestAdd(t *testing.T) {
	m := mixed()
	for _, x := range []struct {
		at int
		c  api.TableCell
	}{
		{1, agreed(0, 15, false, 0)}, {1, shared(0, 2)}, {4, control(2, 3, false, 4, 0)}, {6, control(3, 0, true, 31, math.MaxInt)}, {6, agreed(3, 1, true, 4)}, {6, shared(3, 1)},
		{6, control(4, 4, true, 0, 3)}, {6, agreed(4, 4, true, 2)}, {7, agreed(5, 5, true, 0)}, {7, control(6, 1, true, 31, 0)}, {8, shared(6, 1)},
	} {
		want := table(3, 7, slices.Insert(slices.Clone(m.Cells), x.at, x.c)...)
		if got, e := add(t, m, x.c); !same(got, want) || e != api.OK {
			t.Errorf("%v: %v, error %d", x.c, got, e)
		}
	}
	first, behind := shared(0, 0), table(3, 7, agreed(1, 0, true, 4))
	if got, e := add(t, behind, first); !same(got, table(3, 7, first, agreed(1, 0, true, 4))) || e != api.OK {
		t.Errorf("at the beginning: %v, error %d", got, e)
	}
	if got, e := add(t, table(3, 7), first); !same(got, table(3, 7, first)) || e != api.OK {
		t.Errorf("alone: %v, error %d", got, e)
	}
	if got, e := add(t, full(511), shared(400, 4)); len(got.Cells) != 512 || got.Cells[511] != shared(400, 4) || celltable.Check(got) != api.OK || e != api.OK {
		t.Errorf("the last one: %d cells, error %d", len(got.Cells), e)
	}
}

func TestAddErrors(t *testing.T) {
	m := mixed()
	for _, c := range m.Cells {
		for _, x := range []api.TableCell{c, with(c, func(c *api.TableCell) { c.Offset = 14 - c.Offset/2 })} {
			if got, e := add(t, m, x); !isZero(got) || e != api.ErrConflict {
				t.Errorf("%v: %v, error %d", x, got, e)
			}
		}
	}
	for name, x := range map[string]struct {
		table api.Table
		c     api.TableCell
		want  api.Errno
	}{
		"another peer":             {m, agreed(2, 3, false, 5), api.ErrConflict},
		"another direction":        {m, agreed(2, 3, true, 4), api.ErrConflict},
		"another flow":             {m, control(0, 2, false, 1, 6), api.ErrConflict},
		"513 cells":                {full(512), shared(400, 0), api.ErrTooLarge},
		"a cell twice, and 512":    {full(512), full(512).Cells[511], api.ErrConflict},
		"a wrong cell, and 512":    {full(512), shared(512, 0), api.ErrRange},
		"no kind, and 512":         {full(512), api.TableCell{}, api.ErrArg},
		"a wrong cell in its slot": {m, agreed(2, 16, false, 4), api.ErrRange},
		"a flow in its slot":       {m, with(agreed(2, 3, false, 4), func(c *api.TableCell) { c.Flow = 1 }), api.ErrArg},
		"flow and offset":          {m, api.TableCell{Slot: 3, Offset: 16, Kind: api.CellAgreed, Peer: 1}, api.ErrArg},
		"itself":                   {m, agreed(3, 0, true, 3), api.ErrRange},
		"a slot of the next frame": {m, agreed(7, 0, true, 1), api.ErrRange},
	} {
		if got, e := add(t, x.table, x.c); !isZero(got) || e != x.want {
			t.Errorf("%s: %v, error %d, want %d", name, got, e, x.want)
		}
	}
	for name, x := range wrong() {
		for _, c := range []api.TableCell{shared(5, 0), {}, shared(99, 0), shared(1, 0)} {
			if got, e := add(t, x, c); !isZero(got) || e != api.ErrArg {
				t.Errorf("%s, %v: %v, error %d", name, c, got, e)
			}
		}
	}
}

func TestAddOfEachField(t *testing.T) {
	for _, length := range []int{3, 512} {
		changes(length, func(name string, c api.TableCell, want api.Errno) {
			got, e := add(t, table(13, length), c)
			if e != want || e == api.OK && !same(got, table(13, length, c)) {
				t.Errorf("%s, length %d: %v, error %d, want %d", name, length, got, e, want)
			}
		})
	}
}

func TestRemove(t *testing.T) {
	for _, x := range []api.Table{mixed(), full(512), table(0, 1, shared(0, 0))} {
		for i, c := range x.Cells {
			want := table(x.Node, x.Length, slices.Delete(slices.Clone(x.Cells), i, i+1)...)
			if got, e := remove(t, x, c); !same(got, want) || e != api.OK {
				t.Errorf("%v: %d cells, error %d", c, len(got.Cells), e)
			}
		}
	}
}

func TestRemoveErrors(t *testing.T) {
	m := mixed()
	for _, c := range m.Cells {
		for i, change := range []func(c *api.TableCell){
			func(c *api.TableCell) { c.Slot += 7 }, func(c *api.TableCell) { c.Slot = 3 }, func(c *api.TableCell) { c.Offset ^= 1 }, func(c *api.TableCell) { c.Kind += 3 }, func(c *api.TableCell) { c.Kind = 0 },
			func(c *api.TableCell) { c.Send = !c.Send }, func(c *api.TableCell) { c.Peer ^= 1 }, func(c *api.TableCell) { c.Flow ^= 1 }, func(c *api.TableCell) { *c = api.TableCell{} },
		} {
			if got, e := remove(t, m, with(c, change)); !isZero(got) || e != api.ErrNotFound {
				t.Errorf("%v, change %d: %v, error %d", c, i, got, e)
			}
		}
	}
	for _, c := range []api.TableCell{shared(0, 2), agreed(0, 2, false, 1), control(6, 1, true, 31, 0), shared(6, 1)} {
		if got, e := remove(t, m, c); !isZero(got) || e != api.ErrNotFound {
			t.Errorf("%v: %v, error %d", c, got, e)
		}
	}
	if got, e := remove(t, table(0, 1), shared(0, 0)); !isZero(got) || e != api.ErrNotFound {
		t.Errorf("no cell: %v, error %d", got, e)
	}
	for name, x := range wrong() {
		for _, c := range append([]api.TableCell{{}}, x.Cells[:min(3, len(x.Cells))]...) {
			if got, e := remove(t, x, c); !isZero(got) || e != api.ErrArg {
				t.Errorf("%s, %v: %v, error %d", name, c, got, e)
			}
		}
	}
}

func TestBetween(t *testing.T) {
	cells := []api.TableCell{control(0, 0, true, 4, 1), agreed(0, 9, true, 4), agreed(1, 8, false, 5), shared(1, 1), agreed(2, 7, false, 4), control(3, 0, true, 4, 2), agreed(5, 7, true, 0), agreed(6, 1, true, 4)}
	x := table(3, 7, cells...)
	for peer, want := range map[int][]api.TableCell{
		4: {cells[1], cells[4], cells[7]}, 5: {cells[2]}, 0: {cells[6]}, 3: nil, 6: nil, 31: nil, -1: nil, 32: nil, math.MinInt: nil, math.MaxInt: nil,
	} {
		got, again := celltable.Between(x, peer), celltable.Between(x, peer)
		clear(again)
		if !slices.Equal(got, want) {
			t.Errorf("peer %d: %v", peer, got)
		}
		clear(got)
		if !slices.Equal(x.Cells, []api.TableCell{control(0, 0, true, 4, 1), agreed(0, 9, true, 4), agreed(1, 8, false, 5), shared(1, 1), agreed(2, 7, false, 4), control(3, 0, true, 4, 2), agreed(5, 7, true, 0), agreed(6, 1, true, 4)}) {
			t.Fatalf("peer %d: a change of the result shows: %v", peer, x)
		}
	}
	if got := celltable.Between(table(3, 7), 4); len(got) != 0 {
		t.Errorf("no cell: %v", got)
	}
	for name, x := range wrong() {
		for peer := -1; peer < 33; peer++ {
			if got := celltable.Between(x, peer); len(got) != 0 {
				t.Errorf("%s, peer %d: %v", name, peer, got)
			}
		}
	}
}

func TestMirror(t *testing.T) {
	left := table(1, 9, control(0, 0, true, 2, 7), agreed(0, 3, true, 2), agreed(2, 4, false, 2), agreed(3, 5, true, 6), shared(4, 4))
	right := table(2, 9, agreed(0, 3, false, 1), shared(1, 2), agreed(2, 4, true, 1), control(5, 0, true, 1, 8), agreed(6, 5, true, 6))
	changed := func(t api.Table, i int, change func(*api.TableCell)) api.Table {
		t.Cells = slices.Clone(t.Cells)
		change(&t.Cells[i])
		return t
	}
	for name, x := range map[string]struct {
		a, b api.Table
		want bool
	}{
		"both":                  {left, right, true},
		"no cells":              {table(1, 9), table(2, 9), true},
		"cells with others":     {table(1, 9, agreed(0, 3, true, 5), shared(3, 3)), table(2, 9, agreed(4, 3, true, 5), control(5, 5, true, 1, 1)), true},
		"no cells of one side":  {left, table(2, 9), false},
		"one node":              {table(1, 9), table(1, 9), false},
		"one node with cells":   {left, table(1, 9, right.Cells[1]), false},
		"a table with itself":   {left, left, false},
		"lengths":               {left, table(2, 10, right.Cells...), false},
		"lengths, no cells":     {table(1, 9), table(2, 8), false},
		"both send":             {left, changed(right, 0, func(c *api.TableCell) { c.Send = true }), false},
		"both listen":           {left, changed(right, 2, func(c *api.TableCell) { c.Send = false }), false},
		"another offset":        {left, changed(right, 0, func(c *api.TableCell) { c.Offset = 4 }), false},
		"another slot":          {left, changed(right, 2, func(c *api.TableCell) { c.Slot = 3 }), false},
		"another peer":          {left, changed(right, 2, func(c *api.TableCell) { c.Peer = 7 }), false},
		"control for agreed":    {left, changed(right, 0, func(c *api.TableCell) { c.Kind, c.Flow = api.CellControl, 0 }), false},
		"one more":              {left, table(2, 9, slices.Concat(right.Cells, []api.TableCell{agreed(8, 0, true, 1)})...), false},
		"one less":              {left, table(2, 9, right.Cells[1:]...), false},
		"a right one and wrong": {left, changed(right, 1, func(c *api.TableCell) { c.Offset = 16 }), false},
		"a wrong node":          {left, table(32, 9), false},
		"two wrong lengths":     {table(1, 0), table(2, 0), false},
	} {
		if got := celltable.Mirror(x.a, x.b); got != x.want {
			t.Errorf("%s: %v", name, got)
		}
		if got := celltable.Mirror(x.b, x.a); got != x.want {
			t.Errorf("%s, the other way round: %v", name, got)
		}
	}
	for name, x := range wrong() {
		for _, other := range []api.Table{x, table(2, 7), table(4, 7), table(4, x.Length)} {
			if celltable.Mirror(x, other) || celltable.Mirror(other, x) {
				t.Errorf("%s and %v", name, other)
			}
		}
	}
}
