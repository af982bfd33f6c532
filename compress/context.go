package compress

import (
	"cmp"
	"maps"
	"slices"
	"strings"

	"hopmesh/api"
)

const (
	mostContexts = 8
	// bestSize is the size of the prefixes that Best returns.
	bestSize = 3
)

// Contexts checks a list of contexts.
func Contexts(l []api.Context) api.Errno {
	if !areContexts(l) {
		return api.ErrArg
	}
	return api.OK
}

// areContexts says whether a list of contexts is valid.
func areContexts(l []api.Context) bool {
	if len(l) > mostContexts {
		return false
	}
	for _, c := range l {
		if !within(len(c.Prefix), 1, addressSize) {
			return false
		}
	}
	return true
}

// Find returns the context of an address.
func Find(l []api.Context, address string) (int, bool) {
	if !areContexts(l) || !isAddress(address) {
		return 0, false
	}
	best, longest := 0, 0
	for i, c := range l {
		if len(c.Prefix) > longest && strings.HasPrefix(address, c.Prefix) {
			best, longest = i, len(c.Prefix)
		}
	}
	return best, longest > 0
}

// Best returns contexts for the addresses of headers.
func Best(h []api.Header, most int) []api.Context {
	if !within(most, 1, mostContexts) {
		return nil
	}
	times := count(h)
	prefixes := slices.SortedFunc(maps.Keys(times), func(a, b string) int {
		return cmp.Or(cmp.Compare(times[b], times[a]), strings.Compare(a, b))
	})
	var best []api.Context
	for _, prefix := range prefixes[:min(most, len(prefixes))] {
		best = append(best, api.Context{Prefix: prefix})
	}
	return best
}

// count returns how often each prefix occurs in the addresses of valid headers.
func count(h []api.Header) map[string]int {
	times := map[string]int{}
	for _, one := range h {
		if isHeader(one) {
			times[one.Source[:bestSize]]++
			times[one.Target[:bestSize]]++
		}
	}
	return times
}
