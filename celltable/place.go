package celltable

import (
	"slices"

	"hopmesh/api"
)

// mostMask has the bits of all offsets.
const mostMask = 1<<api.Channels - 1

// isMask says whether a mask is one for a length.
func isMask(f api.Free, length int) bool {
	return len(f) == length && !slices.ContainsFunc(f, func(offsets int) bool { return !within(offsets, 0, mostMask) })
}

// isFree says whether a right table has no cell in a slot.
func isFree(t api.Table, slot int) bool {
	_, found := first(t, slot)
	return !found
}

// has says whether the bit of an offset is set.
func has(offsets, offset int) bool { return offsets&(1<<offset) != 0 }

// Fits reports whether a place fits a table and a mask.
func Fits(t api.Table, f api.Free, s api.Spot) bool {
	if !isRight(t) || !isMask(f, t.Length) {
		return false
	}
	if !within(s.Slot, 0, t.Length-1) || !isOffset(s.Offset) {
		return false
	}
	return has(f[s.Slot], s.Offset) && isFree(t, s.Slot)
}

// least returns the least offset whose bit is set, if there is one.
func least(offsets int) (int, bool) {
	for offset := range api.Channels {
		if has(offsets, offset) {
			return offset, true
		}
	}
	return 0, false
}

// Candidates returns the first n slots in which a place fits, each with the least offset that does.
func Candidates(t api.Table, f api.Free, n int) []api.Spot {
	if !isRight(t) || !isMask(f, t.Length) {
		return nil
	}
	var spots []api.Spot
	for slot := range t.Length {
		if len(spots) >= n {
			break
		}
		offset, some := least(f[slot])
		if some && isFree(t, slot) {
			spots = append(spots, api.Spot{Slot: slot, Offset: offset})
		}
	}
	return spots
}
