package quality

import (
	"slices"

	"hopmesh/api"
)

const (
	maxRound = 1 << 30
	maxHold  = 64
)

// New returns the learner at first.
func New() api.Learner {
	return api.Learner{
		Counts: make([]api.Counts, api.Channels),
		Until:  make([]int, api.Channels),
		Hold:   make([]int, api.Channels),
	}
}

// clone returns a copy of a valid learner that shares no memory with it.
func clone(l api.Learner) api.Learner {
	c := New()
	c.Round = l.Round
	copy(c.Counts, l.Counts)
	copy(c.Until, l.Until)
	copy(c.Hold, l.Hold)
	return c
}

// isHold says whether a number can be one of rounds for which a channel was blacklisted: 0, or a power of two.
func isHold(n int) bool { return within(n, 0, maxHold) && n&(n-1) == 0 }

// isUntil says whether a channel can be blacklisted until a round, or not (0), in a round with a hold.
func isUntil(until, round, hold int) bool {
	return until == 0 || within(until, round+1, round+maxHold) && hold != 0
}

// Valid checks a learner.
func Valid(l api.Learner) api.Errno {
	if !within(l.Round, 0, maxRound) || len(l.Counts) != api.Channels || len(l.Until) != api.Channels || len(l.Hold) != api.Channels {
		return api.ErrArg
	}
	for channel := range api.Channels {
		hold := l.Hold[channel]
		if Check(l.Counts[channel]) != api.OK || !isHold(hold) || !isUntil(l.Until[channel], l.Round, hold) {
			return api.ErrArg
		}
	}
	return api.OK
}

// Note returns the learner with one more attempt on a channel.
func Note(l api.Learner, channel int, acked bool) (api.Learner, api.Errno) {
	if Valid(l) != api.OK {
		return api.Learner{}, api.ErrArg
	}
	if !within(channel, 0, api.Channels-1) {
		return api.Learner{}, api.ErrRange
	}
	counts, err := Add(l.Counts[channel], acked)
	if err != api.OK {
		return api.Learner{}, err
	}
	noted := clone(l)
	noted.Counts[channel] = counts
	return noted, api.OK
}

// isOpen says whether a channel of a valid learner is not blacklisted.
func isOpen(l api.Learner, channel int) bool { return l.Until[channel] == 0 }

// choose returns the channels for which a condition is true, in increasing order.
func choose(condition func(channel int) bool) []int {
	var chosen []int
	for channel := range api.Channels {
		if condition(channel) {
			chosen = append(chosen, channel)
		}
	}
	return chosen
}

// Black returns the blacklisted channels.
func Black(l api.Learner) ([]int, api.Errno) {
	if Valid(l) != api.OK {
		return nil, api.ErrArg
	}
	return choose(func(channel int) bool { return !isOpen(l, channel) }), api.OK
}

// Merge returns a learner that has the counts of both.
func Merge(a, b api.Learner) (api.Learner, api.Errno) {
	if Valid(a) != api.OK || Valid(b) != api.OK {
		return api.Learner{}, api.ErrArg
	}
	if a.Round != b.Round || !slices.Equal(a.Until, b.Until) || !slices.Equal(a.Hold, b.Hold) {
		return api.Learner{}, api.ErrMismatch
	}
	merged := clone(a)
	for channel, c := range b.Counts {
		merged.Counts[channel].Attempts += c.Attempts
		merged.Counts[channel].Acked += c.Acked
		if merged.Counts[channel].Attempts > maxAttempts {
			return api.Learner{}, api.ErrFull
		}
	}
	return merged, api.OK
}
