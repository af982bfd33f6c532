package quality

import (
	"cmp"
	"slices"

	"hopmesh/api"
)

const maxWindow = 1000

// rules say when a channel is blacklisted, and when it has proved itself.
type rules struct{ window, low, high, least int }

// areValid says whether rules are as they must be.
func (r rules) areValid() bool {
	return within(r.window, 1, maxWindow) && 0 <= r.low && r.low <= r.high && r.high <= whole && within(r.least, 1, api.Channels)
}

// isBad says whether a channel with some counts is bad.
func (r rules) isBad(c api.Counts) bool { return c.Attempts >= r.window && rateOf(c) < r.low }

// isProved says whether a channel with some counts is proved.
func (r rules) isProved(c api.Counts) bool { return c.Attempts >= r.window && rateOf(c) >= r.high }

// failing returns the channels of a learner that are to be blacklisted, the one with the least rate first.
func (r rules) failing(l api.Learner) []int {
	room := len(choose(func(channel int) bool { return isOpen(l, channel) })) - r.least
	bad := choose(func(channel int) bool { return isOpen(l, channel) && r.isBad(l.Counts[channel]) })
	slices.SortFunc(bad, func(a, b int) int {
		return cmp.Or(compareRates(l.Counts[a], l.Counts[b]), cmp.Compare(a, b))
	})
	return bad[:min(max(room, 0), len(bad))]
}

// proved returns the channels of a learner that are not blacklisted and proved.
func (r rules) proved(l api.Learner) []int {
	return choose(func(channel int) bool { return isOpen(l, channel) && r.isProved(l.Counts[channel]) })
}

// blacklist changes a learner so that a channel is blacklisted, for twice as long as last.
func blacklist(l api.Learner, channel int) {
	hold := min(max(2*l.Hold[channel], 1), maxHold)
	l.Hold[channel], l.Until[channel] = hold, l.Round+1+hold
}

// begin changes a learner that has come to a round so that the channels whose time is over are tried again, without attempts.
func begin(l api.Learner) {
	for channel, until := range l.Until {
		if until <= l.Round {
			l.Until[channel] = 0
		}
		l.Counts[channel] = api.Counts{}
	}
}

// Close returns the learner behind the round.
func Close(l api.Learner, window, low, high, least int) (api.Learner, api.Errno) {
	r := rules{window, low, high, least}
	switch {
	case Valid(l) != api.OK:
		return api.Learner{}, api.ErrArg
	case !r.areValid():
		return api.Learner{}, api.ErrRange
	case l.Round == maxRound:
		return api.Learner{}, api.ErrFull
	}
	closed := clone(l)
	for _, channel := range r.failing(closed) {
		blacklist(closed, channel)
	}
	for _, channel := range r.proved(closed) {
		closed.Hold[channel] = 0
	}
	closed.Round++
	begin(closed)
	return closed, api.OK
}
