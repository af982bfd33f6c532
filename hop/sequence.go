package hop

import (
	"slices"

	"hopmesh/api"
)

// nextVersion returns the version that follows another one.
func nextVersion(version int) int { return (version + 1) % versions }

// checkNext says whether a list follows another one.
func checkNext(before, l api.HopList) api.Errno {
	if l.First != before.Until {
		return api.ErrOrder
	}
	if l.Version != nextVersion(before.Version) {
		return api.ErrVersion
	}
	return api.OK
}

// CheckAll checks a sequence of lists.
func CheckAll(l []api.HopList) api.Errno {
	if !within(len(l), 1, api.MaxList) {
		return api.ErrArg
	}
	for i := range len(l) {
		if err := Check(l[i]); err != api.OK {
			return err
		}
		if i == 0 {
			continue
		}
		if err := checkNext(l[i-1], l[i]); err != api.OK {
			return err
		}
	}
	return api.OK
}

// InForce returns the list of a sequence that is in force in a slot.
func InForce(l []api.HopList, slot int) (api.HopList, api.Errno) {
	if err := CheckAll(l); err != api.OK {
		return api.HopList{}, err
	}
	for _, found := range l {
		if inForce(found, slot) {
			found.Channels = slices.Clone(found.Channels)
			return found, api.OK
		}
	}
	return api.HopList{}, api.ErrNotFound
}

// Next returns the list that follows another one.
func Next(l api.HopList, until int, channels []int) (api.HopList, api.Errno) {
	next := api.HopList{Version: nextVersion(l.Version), First: l.Until, Until: until, Channels: channels}
	if Check(l) != api.OK || Check(next) != api.OK {
		return api.HopList{}, api.ErrArg
	}
	next.Channels = slices.Clone(channels)
	return next, api.OK
}

// Newer reports whether the version a is newer than b.
func Newer(a, b int) bool {
	// versions are added because the remainder of a negative number is not positive
	return isVersion(a) && isVersion(b) && within((a-b+versions)%versions, 1, versions/2-1)
}
