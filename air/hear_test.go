package air_test

import (
	"math"
	"testing"

	"hopmesh/air"
	"hopmesh/api"
)

// listening returns the listening of a node on the channel of these tests.
func listening(node, from, to int) api.Listening {
	return api.Listening{Node: node, Channel: channel, From: from, To: to}
}

func TestHear(t *testing.T) {
	single := list(sends(0, 100, 200))
	// all of these are received by node 3, one behind the other, and the earliest one stands last
	three := list(sends(0, 300, 400), sends(1, 200, 300), sends(2, 100, 200))
	both := list(sends(0, 100, 200), sends(1, 150, 250), sends(2, 250, 300))
	for _, c := range []struct {
		name  string
		x     api.Spectrum
		l     []api.Emission
		y     api.Listening
		heard int
		found bool
	}{
		{"nothing is sent", api.Spectrum{}, nil, listening(3, 0, 1000), 0, false},
		{"one", api.Spectrum{}, single, listening(3, 0, 1000), 0, true},
		{"one, at all times", api.Spectrum{}, single, listening(3, 0, mostTime), 0, true},
		{"one that begins at the beginning", api.Spectrum{}, single, listening(3, 100, 150), 0, true},
		{"one that begins before", api.Spectrum{}, single, listening(3, 101, 150), 0, false},
		{"one that begins behind the beginning", api.Spectrum{}, single, listening(3, 99, 150), 0, true},
		{"one that begins at the end", api.Spectrum{}, single, listening(3, 50, 100), 0, true},
		{"one that begins before the end", api.Spectrum{}, single, listening(3, 50, 101), 0, true},
		{"one that begins behind", api.Spectrum{}, single, listening(3, 50, 99), 0, false},
		{"one time", api.Spectrum{}, single, listening(3, 100, 100), 0, true},
		{"one time, before", api.Spectrum{}, single, listening(3, 99, 99), 0, false},
		{"one time, behind", api.Spectrum{}, single, listening(3, 101, 101), 0, false},
		{"one at the time 0", api.Spectrum{}, list(sends(0, 0, 9)), listening(3, 0, 0), 0, true},
		{"one at the last time", api.Spectrum{}, list(sends(0, mostTime-1, mostTime)), listening(3, mostTime-1, mostTime), 0, true},
		{"behind the last time", api.Spectrum{}, list(sends(0, mostTime-1, mostTime)), listening(3, mostTime, mostTime), 0, false},
		{"on another channel", api.Spectrum{}, single, api.Listening{Node: 3, Channel: 4, To: 1000}, 0, false},
		{"one on another channel first", api.Spectrum{}, list(sendsOn(4, 1, 50, 80), sends(0, 100, 200)), listening(3, 0, 1000), 1, true},
		{"one on another channel meanwhile", api.Spectrum{}, list(sendsOn(4, 1, 90, 280), sends(0, 100, 200)), listening(3, 0, 1000), 1, true},
		{"by its own node", api.Spectrum{}, single, listening(0, 0, 1000), 0, false},
		{"by a node that emits meanwhile", api.Spectrum{}, list(sends(0, 100, 200), sendsOn(4, 3, 199, 300)), listening(3, 0, 1000), 0, false},
		{"by a node that emitted before", api.Spectrum{}, list(sends(3, 0, 100), sends(0, 100, 200)), listening(3, 0, 1000), 1, true},
		{"several", api.Spectrum{}, three, listening(3, 0, 1000), 2, true},
		{"several, from the second one on", api.Spectrum{}, three, listening(3, 101, 1000), 1, true},
		{"several, from the third one on", api.Spectrum{}, three, listening(3, 201, 1000), 0, true},
		{"several, one time", api.Spectrum{}, three, listening(3, 200, 200), 1, true},
		{"several, in order", api.Spectrum{}, list(sends(0, 100, 200), sends(1, 200, 300), sends(0, 300, 400)), listening(3, 0, 1000), 0, true},
		{"several, in order, from the second one on", api.Spectrum{}, list(sends(0, 100, 200), sends(1, 200, 300), sends(0, 300, 400)), listening(3, 150, 1000), 1, true},
		{"several, the first one is its own", api.Spectrum{}, three, listening(2, 0, 1000), 1, true},
		{"the first one is disturbed", api.Spectrum{}, both, listening(3, 0, 1000), 2, true},
		{"the first one is disturbed, and nothing else", api.Spectrum{}, both[:2], listening(3, 0, 1000), 0, false},
		{"the first one is disturbed, too short for the last one", api.Spectrum{}, both, listening(3, 0, 249), 0, false},
		{"disturbed by what begins outside of the window", api.Spectrum{}, both, listening(3, 100, 100), 0, false},
		{"the second one is faded", fading(1, 0, 1000, 100), both, listening(3, 0, 1000), 0, true},
		{"the first one is faded", fading(0, 0, 1000, 100), both, listening(3, 0, 1000), 1, true},
		{"external", sources(steady(1000, 0, 160, channel)), both, listening(3, 0, 1000), 2, true},
		{"external, always", sources(steady(1000, 0, 1000, channel)), three, listening(3, 0, 1000), 0, false},
	} {
		heard, found, e := air.Hear(near(1000, 1000, 1000, 0), c.x, c.l, c.y)
		if heard != c.heard || found != c.found || e != api.OK {
			t.Errorf("%s: %d, %t, error %d, want %d, %t", c.name, heard, found, e, c.heard, c.found)
		}
	}
}

func TestHearOfTwoAtOnce(t *testing.T) {
	for _, l := range [][]api.Emission{list(sends(0, 100, 200), sends(1, 100, 200)), list(sends(1, 100, 200), sends(0, 100, 200))} {
		for powers, node := range map[[2]int]int{{100, 40}: 0, {40, 100}: 1, {100, 41}: -1, {100, 100}: -1} {
			heard, found, e := air.Hear(near(powers[0], powers[1], 0), api.Spectrum{}, l, listening(2, 0, 1000))
			if e != api.OK || found != (node >= 0) || found && l[heard].Node != node || !found && heard != 0 {
				t.Errorf("%v with %v units: %d, %t, error %d, want node %d", l, powers, heard, found, e, node)
			}
		}
	}
}

func TestHearErrors(t *testing.T) {
	good := list(sends(0, 100, 200))
	faded := api.Spectrum{Fades: make([]api.Fade, 65)}
	for _, c := range []struct {
		name string
		s    api.Site
		x    api.Spectrum
		l    []api.Emission
		y    api.Listening
		e    api.Errno
	}{
		{"the node -1", row(), api.Spectrum{}, good, listening(-1, 0, 1000), api.ErrNotFound}, {"the node of the end", row(), api.Spectrum{}, good, listening(3, 0, 1000), api.ErrNotFound},
		{"the least node", row(), api.Spectrum{}, good, listening(math.MinInt, 0, 1000), api.ErrNotFound}, {"the greatest node", row(), api.Spectrum{}, good, listening(math.MaxInt, 0, 1000), api.ErrNotFound},
		{"the channel -1", row(), api.Spectrum{}, good, api.Listening{Node: 1, Channel: -1, To: 1000}, api.ErrRange}, {"the channel 16", row(), api.Spectrum{}, good, api.Listening{Node: 1, Channel: 16, To: 1000}, api.ErrRange},
		{"from below 0", row(), api.Spectrum{}, good, listening(1, -1, 1000), api.ErrRange}, {"both below 0", row(), api.Spectrum{}, good, listening(1, -2, -1), api.ErrRange}, {"the wrong way round", row(), api.Spectrum{}, good, listening(1, 101, 100), api.ErrRange},
		{"to too great", row(), api.Spectrum{}, good, listening(1, 0, mostTime+1), api.ErrRange}, {"both too great", row(), api.Spectrum{}, good, listening(1, mostTime+1, mostTime+1), api.ErrRange}, {"the extremes", row(), api.Spectrum{}, good, listening(1, math.MinInt, math.MaxInt), api.ErrRange},
		{"nothing is sent, but the channel is none", row(), api.Spectrum{}, nil, api.Listening{Node: 1, Channel: 16}, api.ErrRange}, {"no node, no channel", row(), api.Spectrum{}, good, api.Listening{Node: 3, Channel: 16}, api.ErrNotFound}, {"no node, no times", row(), api.Spectrum{}, good, listening(-1, 2, 1), api.ErrNotFound},
		{"no site", api.Site{}, api.Spectrum{}, good, listening(1, 0, 1000), api.ErrArg}, {"no site, no node, no times", api.Site{}, api.Spectrum{}, rows(49), listening(-1, 2, 1), api.ErrArg}, {"no spectrum", row(), faded, good, listening(1, 0, 1000), api.ErrArg}, {"no spectrum, no node", row(), faded, good, listening(3, 2, 1), api.ErrArg},
		{"49 emissions", row(), api.Spectrum{}, rows(49), listening(1, 0, 1000), api.ErrTooLarge}, {"49 emissions, no node", row(), api.Spectrum{}, rows(49), listening(3, 2, 1), api.ErrTooLarge},
		{"an emission without a range, no node", row(), api.Spectrum{}, list(sends(0, 2, 1)), listening(3, 0, 1), api.ErrRange}, {"an emission without a node, no times", row(), api.Spectrum{}, list(sends(3, 0, 1)), listening(1, 2, 1), api.ErrNotFound},
		{"a conflict, no node, no times", row(), api.Spectrum{}, list(sends(0, 0, 2), sends(0, 1, 3)), listening(3, 2, 1), api.ErrConflict},
	} {
		if heard, found, e := air.Hear(c.s, c.x, c.l, c.y); heard != 0 || found || e != c.e {
			t.Errorf("%s: %d, %t, error %d, want error %d", c.name, heard, found, e, c.e)
		}
	}
}
