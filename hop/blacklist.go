package hop

import "hopmesh/api"

const maxBlack = 64

// isBlacklist says whether a list is a blacklist.
func isBlacklist(black []int) bool {
	if len(black) > maxBlack {
		return false
	}
	for _, c := range black {
		if !isChannel(c) {
			return false
		}
	}
	return true
}

// channelSet says of each channel whether it belongs to a set.
type channelSet [api.Channels]bool

// setOf returns the set of the channels of a list.
func setOf(list []int) channelSet {
	var set channelSet
	for _, c := range list {
		set[c] = true
	}
	return set
}

// of returns the channels of a list that belong to a set, in their order.
func (s channelSet) of(list []int) []int {
	var chosen []int
	for _, c := range list {
		if s[c] {
			chosen = append(chosen, c)
		}
	}
	return chosen
}

// without returns a set without the channels of a list.
func (s channelSet) without(list []int) channelSet {
	for _, c := range list {
		s[c] = false
	}
	return s
}

// Without returns the channels that stay if a blacklist is left out.
func Without(channels, black []int, least int) ([]int, api.Errno) {
	if !areChannels(channels) || !isBlacklist(black) {
		return nil, api.ErrArg
	}
	if !within(least, 1, len(channels)) {
		return nil, api.ErrRange
	}
	listed := setOf(channels)
	stay := listed.without(black)
	missing := least - len(stay.of(channels))
	for _, c := range black {
		if missing > 0 && listed[c] && !stay[c] {
			stay[c] = true
			missing--
		}
	}
	return stay.of(channels), api.OK
}
