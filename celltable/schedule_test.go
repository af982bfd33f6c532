package celltable_test

import (
	"fmt"
	"math"
	"slices"
	"testing"

	"hopmesh/api"
	"hopmesh/celltable"
)

// schedule returns a schedule.
func schedule(length, offsets int, cells ...api.Cell) api.Schedule {
	return api.Schedule{Length: length, Offsets: offsets, Cells: cells}
}

// cell returns a cell of a schedule.
func cell(slot, offset, from, to, flow int) api.Cell {
	return api.Cell{Slot: slot, Offset: offset, From: from, To: to, Flow: flow}
}

// exampleSchedule returns the schedule of the example.
func exampleSchedule() api.Schedule {
	return schedule(4, 2, cell(0, 1, 1, 0, 5), cell(2, 0, 0, 2, 5))
}

// of returns the table of a node, and fails if the schedule is modified, or a result shares memory.
func of(t *testing.T, s api.Schedule, node int) (api.Table, api.Errno) {
	t.Helper()
	before := slices.Clone(s.Cells)
	got, e := celltable.Of(s, node)
	again, _ := celltable.Of(s, node)
	want := slices.Clone(got.Cells)
	clear(again.Cells)
	if !slices.Equal(s.Cells, before) || !slices.Equal(got.Cells, want) {
		t.Errorf("%v, node %d: modified", s, node)
	}
	return got, e
}

// mask returns the mask of a schedule, and fails likewise.
func mask(t *testing.T, s api.Schedule) (api.Free, api.Errno) {
	t.Helper()
	before := slices.Clone(s.Cells)
	got, e := celltable.Mask(s)
	again, _ := celltable.Mask(s)
	want := slices.Clone(got)
	clear(again)
	if !slices.Equal(s.Cells, before) || !slices.Equal(got, want) {
		t.Errorf("%v: modified", s)
	}
	return got, e
}

func TestTheExample(t *testing.T) {
	s := exampleSchedule()
	x, e := of(t, s, 0)
	if !same(x, table(0, 4, control(0, 1, false, 1, 5), control(2, 0, true, 2, 5))) || e != api.OK {
		t.Errorf("%v, error %d", x, e)
	}
	f, e := mask(t, s)
	if !slices.Equal(f, api.Free{1, 3, 2, 3}) || e != api.OK {
		t.Errorf("mask %v, error %d", f, e)
	}
	if spots := celltable.Candidates(x, f, 10); !slices.Equal(spots, []api.Spot{{Slot: 1}, {Slot: 3}}) {
		t.Errorf("candidates %v", spots)
	}
	if c, ok := celltable.At(x, 6); c != x.Cells[1] || !ok {
		t.Errorf("slot 6: %v, %v", c, ok)
	}
}

func TestOf(t *testing.T) {
	s := schedule(9, 3, cell(8, 2, 4, 5, 1), cell(0, 0, 5, 4, 0), cell(3, 1, 31, 4, 7), cell(3, 1, 0, 5, 7), cell(3, 2, 0, 5, 7), cell(5, 0, 4, 31, math.MaxInt))
	for node, want := range map[int]api.Table{
		4:  table(4, 9, control(0, 0, false, 5, 0), control(3, 1, false, 31, 7), control(5, 0, true, 31, math.MaxInt), control(8, 2, true, 5, 1)),
		31: table(31, 9, control(3, 1, true, 4, 7), control(5, 0, false, 4, math.MaxInt)),
		1:  table(1, 9),
		30: table(30, 9),
	} {
		if got, e := of(t, s, node); !same(got, want) || e != api.OK || celltable.Check(got) != api.OK {
			t.Errorf("node %d: %v, error %d", node, got, e)
		}
	}
	for _, node := range []int{0, 5} {
		if got, e := of(t, s, node); !isZero(got) || e != api.ErrConflict {
			t.Errorf("node %d: %v, error %d", node, got, e)
		}
	}
	if got, e := of(t, schedule(512, 16), 31); !same(got, table(31, 512)) || e != api.OK {
		t.Errorf("no cell: %v, error %d", got, e)
	}
}

func TestOfANodeWithTwoCellsInOneSlot(t *testing.T) {
	for name, x := range map[string]struct {
		cells []api.Cell
		want  api.Errno
	}{
		"twice from":               {[]api.Cell{cell(1, 0, 3, 4, 1), cell(1, 1, 3, 5, 1)}, api.ErrConflict},
		"twice to":                 {[]api.Cell{cell(1, 0, 4, 3, 1), cell(1, 1, 5, 3, 1)}, api.ErrConflict},
		"from and to":              {[]api.Cell{cell(1, 0, 3, 4, 1), cell(1, 1, 5, 3, 1)}, api.ErrConflict},
		"to and from":              {[]api.Cell{cell(1, 0, 4, 3, 1), cell(1, 1, 3, 5, 1)}, api.ErrConflict},
		"one offset":               {[]api.Cell{cell(1, 0, 3, 4, 1), cell(1, 0, 3, 4, 2)}, api.ErrConflict},
		"equal cells":              {[]api.Cell{cell(1, 0, 3, 4, 1), cell(1, 0, 3, 4, 1)}, api.ErrConflict},
		"equal cells, not in turn": {[]api.Cell{cell(1, 0, 3, 4, 1), cell(0, 0, 3, 4, 1), cell(2, 0, 3, 4, 1), cell(1, 0, 3, 4, 1)}, api.ErrConflict},
		"equal cells of others":    {[]api.Cell{cell(1, 0, 3, 4, 1), cell(0, 0, 5, 4, 1), cell(0, 0, 5, 4, 1)}, api.OK},
		"other slots":              {[]api.Cell{cell(1, 0, 3, 4, 1), cell(0, 0, 3, 4, 1)}, api.OK},
		"others in its slot":       {[]api.Cell{cell(1, 0, 3, 4, 1), cell(1, 0, 5, 6, 1), cell(1, 1, 5, 6, 1)}, api.OK},
	} {
		got, e := of(t, schedule(3, 2, x.cells...), 3)
		if e != x.want || e == api.OK == isZero(got) {
			t.Errorf("%s: %v, error %d", name, got, e)
		}
	}
}

// schedules calls a function with schedules at the ends of their ranges, and beyond.
func schedules(call func(name string, s api.Schedule, err api.Errno)) {
	for _, x := range []struct {
		name        string
		of          func(s *api.Schedule) *int
		least, most int
	}{
		{"length", func(s *api.Schedule) *int { return &s.Length }, 3, 512},
		{"offsets", func(s *api.Schedule) *int { return &s.Offsets }, 2, 16},
		{"slot", func(s *api.Schedule) *int { return &s.Cells[1].Slot }, 0, 3},
		{"offset", func(s *api.Schedule) *int { return &s.Cells[1].Offset }, 0, 1},
		{"from", func(s *api.Schedule) *int { return &s.Cells[1].From }, 0, 31},
		{"to", func(s *api.Schedule) *int { return &s.Cells[1].To }, 0, 31},
		{"flow", func(s *api.Schedule) *int { return &s.Cells[1].Flow }, 0, math.MaxInt},
	} {
		for _, n := range numbersNear(x.least, x.most) {
			s, err := schedule(4, 2, cell(0, 1, 8, 9, 5), cell(2, 0, 10, 12, 5)), api.OK
			*x.of(&s) = n
			if n < x.least || n > x.most {
				err = api.ErrArg
			}
			call(fmt.Sprint(x.name, " ", n), s, err)
		}
	}
	call("nothing", api.Schedule{}, api.ErrArg)
	call("length 1", schedule(1, 1), api.OK)
	call("length 0", schedule(0, 1), api.ErrArg)
	call("no offsets", schedule(1, 0), api.ErrArg)
	call("a node with itself", schedule(4, 2, cell(0, 1, 1, 1, 5)), api.ErrArg)
	call("a wrong cell at first", schedule(4, 2, cell(0, 2, 1, 2, 5), cell(0, 0, 1, 2, 5)), api.ErrArg)
	for _, n := range []int{511, 512, 513, 1000} {
		err := api.OK
		if n > 512 {
			err = api.ErrArg
		}
		call(fmt.Sprint(n, " cells"), schedule(4, 2, slices.Repeat([]api.Cell{cell(3, 1, 0, 1, 5)}, n)...), err)
	}
}

func TestTheFormOfASchedule(t *testing.T) {
	schedules(func(name string, s api.Schedule, want api.Errno) {
		got, e := of(t, s, 20)
		if e != want || e != api.OK && !isZero(got) || e == api.OK && !same(got, table(20, s.Length)) {
			t.Errorf("%s: %v, error %d, want %d", name, got, e, want)
		}
		f, e := mask(t, s)
		if e != want || e != api.OK && len(f) != 0 || e == api.OK && len(f) != s.Length {
			t.Errorf("%s: mask %v, error %d, want %d", name, f, e, want)
		}
	})
}

func TestWhichErrorOfOfIsNamed(t *testing.T) {
	twice := []api.Cell{cell(1, 0, 3, 4, 1), cell(1, 0, 3, 4, 1)}
	for name, x := range map[string]struct {
		s    api.Schedule
		node int
		want api.Errno
	}{
		"node -1":               {exampleSchedule(), -1, api.ErrRange},
		"node 32":               {exampleSchedule(), 32, api.ErrRange},
		"the least node":        {exampleSchedule(), math.MinInt, api.ErrRange},
		"the greatest node":     {exampleSchedule(), math.MaxInt, api.ErrRange},
		"no cell, node 32":      {schedule(1, 1), 32, api.ErrRange},
		"form and node":         {schedule(1, 0), 32, api.ErrArg},
		"form and conflict":     {schedule(3, 2, append(twice, cell(3, 0, 1, 2, 0))...), 3, api.ErrArg},
		"node and twice":        {schedule(3, 2, twice...), 32, api.ErrRange},
		"conflict":              {schedule(3, 2, twice...), 3, api.ErrConflict},
		"a cell of two nodes":   {schedule(3, 2, twice...), 4, api.ErrConflict},
		"a conflict of another": {schedule(3, 2, twice...), 2, api.OK},
		"node 0":                {exampleSchedule(), 0, api.OK},
		"node 31":               {exampleSchedule(), 31, api.OK},
	} {
		if got, e := of(t, x.s, x.node); e != x.want || e != api.OK && !isZero(got) {
			t.Errorf("%s: %v, error %d, want %d", name, got, e, x.want)
		}
	}
}

func TestMask(t *testing.T) {
	for name, x := range map[string]struct {
		s    api.Schedule
		want api.Free
	}{
		"one place":       {schedule(1, 1), api.Free{1}},
		"one cell":        {schedule(1, 1, cell(0, 0, 0, 1, 0)), api.Free{0}},
		"all offsets":     {schedule(3, 16), api.Free{65535, 65535, 65535}},
		"15 offsets":      {schedule(2, 15), api.Free{32767, 32767}},
		"both ends":       {schedule(3, 16, cell(2, 15, 0, 1, 0), cell(0, 0, 0, 1, 0)), api.Free{65534, 65535, 32767}},
		"equal cells":     {schedule(2, 3, cell(1, 1, 0, 1, 0), cell(1, 1, 0, 1, 0)), api.Free{7, 5}},
		"one place twice": {schedule(2, 3, cell(1, 1, 0, 1, 0), cell(1, 1, 2, 3, 0)), api.Free{7, 5}},
		"a slot is full":  {schedule(2, 3, cell(0, 1, 0, 1, 0), cell(0, 2, 2, 3, 0), cell(0, 0, 4, 5, 0)), api.Free{0, 7}},
	} {
		if f, e := mask(t, x.s); !slices.Equal(f, x.want) || e != api.OK {
			t.Errorf("%s: %v, error %d", name, f, e)
		}
	}
}
