package celltable

import (
	"slices"

	"hopmesh/api"
)

// isSchedule says whether a schedule has its form.
func isSchedule(s api.Schedule) bool {
	if !isLength(s.Length) || !within(s.Offsets, 1, api.Channels) || len(s.Cells) > api.MaxCells {
		return false
	}
	return !slices.ContainsFunc(s.Cells, func(c api.Cell) bool { return !isPlanned(s, c) })
}

// isPlanned says whether a cell can be one of a schedule with the length and the offsets of s.
func isPlanned(s api.Schedule, c api.Cell) bool {
	return within(c.Slot, 0, s.Length-1) && within(c.Offset, 0, s.Offsets-1) &&
		isNode(c.From) && isNode(c.To) && c.From != c.To && c.Flow >= 0
}

// Of returns the table of the control cells of a node.
func Of(s api.Schedule, node int) (api.Table, api.Errno) {
	if !isSchedule(s) {
		return api.Table{}, api.ErrArg
	}
	if !isNode(node) {
		return api.Table{}, api.ErrRange
	}
	t := api.Table{Node: node, Length: s.Length}
	for _, c := range s.Cells {
		if c.From != node && c.To != node {
			continue
		}
		at, found := first(t, c.Slot)
		if found {
			return api.Table{}, api.ErrConflict
		}
		t.Cells = slices.Insert(t.Cells, at, control(c, node))
	}
	return t, api.OK
}

// control returns a cell of a schedule as one of its nodes has it.
func control(c api.Cell, node int) api.TableCell {
	own := api.TableCell{Slot: c.Slot, Offset: c.Offset, Kind: api.CellControl, Peer: c.From, Flow: c.Flow}
	if c.From == node {
		own.Send, own.Peer = true, c.To
	}
	return own
}

// Mask returns the mask of a schedule.
func Mask(s api.Schedule) (api.Free, api.Errno) {
	if !isSchedule(s) {
		return nil, api.ErrArg
	}
	mask := make(api.Free, s.Length)
	for slot := range mask {
		mask[slot] = 1<<s.Offsets - 1
	}
	for _, c := range s.Cells {
		mask[c.Slot] &^= 1 << c.Offset
	}
	return mask, api.OK
}
