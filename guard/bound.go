package guard

import (
	"sort"

	"hopmesh/api"
)

const billion = 1_000_000_000

// bound is a drift bound, in parts per billion.
type bound int

// growth returns by how much the difference of two clocks can grow in a time.
func (d bound) growth(time int) int { return 2*time*int(d)/billion + 2 }

// length returns how long a number of slots can last.
func (d bound) length(slots int) int {
	left := billion - int(d)
	return ((slots*api.SlotTime+1)*billion + left - 1) / left
}

// step returns by how much a node can differ from its time parent, if it was corrected a number of slots ago.
func (d bound) step(slots int) int { return 1 + d.growth(d.length(slots)) }

// path leads from a node to another one, over nodes that were corrected by their neighbours on it. Links is the sum of the depths of its ends.
type path struct {
	links int
	drift bound
}

// spread returns by how much the ends of a path can differ, if all its nodes were corrected a number of slots ago.
func (p path) spread(slots int) int { return p.links * p.drift.step(slots) }

// tooWide says whether the spread of a path is greater than the guard time. More slots never make a spread less.
func (p path) tooWide(slots int) bool { return p.spread(slots) > api.GuardTime }

// slots returns how many slots may pass between the corrections of a path.
func (p path) slots() (int, api.Errno) {
	tooMany := sort.Search(api.MaxRun+1, p.tooWide)
	if tooMany == 0 {
		return 0, api.ErrConflict
	}
	return tooMany - 1, api.OK
}
