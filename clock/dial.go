package clock

import (
	"sort"

	"hopmesh/api"
)

const billion = 1_000_000_000

// dial is a valid clock as a function of time, which never goes back.
type dial struct{ shows func(t int) int }

// dialOf returns the dial of a valid clock.
func dialOf(c api.Clock) dial {
	return dial{func(t int) int { return c.Offset + t + floor(t*c.Drift, billion) }}
}

// floor returns the greatest integer that is not greater than a / b, for a positive b.
func floor(a, b int) int {
	quotient := a / b
	if a%b < 0 {
		quotient--
	}
	return quotient
}

// reach returns the least time at which a dial shows x or more.
func (d dial) reach(x int) (int, api.Errno) {
	t := sort.Search(api.MaxTime+1, func(t int) bool { return d.shows(t) >= x })
	if t > api.MaxTime {
		return 0, api.ErrLate
	}
	return t, api.OK
}
