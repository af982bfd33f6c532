package spectrum

import (
	"hopmesh/api"
	"hopmesh/geometry"
	"hopmesh/power"
)

// condition is one of those under which a fading applies.
type condition struct {
	met func(api.Fade) bool
}

// between returns the condition that a fading applies from a to b.
func between(a, b int) condition {
	return condition{func(f api.Fade) bool {
		return (f.From == wild || f.From == a) && (f.To == wild || f.To == b)
	}}
}

// on returns the condition that a fading applies on a channel.
func on(channel int) condition {
	return condition{func(f api.Fade) bool { return f.Channel == wild || f.Channel == channel }}
}

// at returns the condition that a fading applies at a time.
func at(t int) condition {
	return condition{func(f api.Fade) bool { return f.First <= t && t < f.Until }}
}

// ever returns the condition that there is a time at which a fading applies.
func ever() condition {
	return condition{func(f api.Fade) bool { return f.First < f.Until }}
}

// applies says whether a fading meets all conditions.
func applies(f api.Fade, conditions []condition) bool {
	for _, c := range conditions {
		if !c.met(f) {
			return false
		}
	}
	return true
}

// least returns the least factor of the fadings that meet all conditions.
func least(fades []api.Fade, conditions ...condition) int {
	factor := full
	for _, f := range fades {
		if applies(f, conditions) {
			factor = min(factor, f.Factor)
		}
	}
	return factor
}

// Factor returns the factor of a transmission.
func Factor(x api.Spectrum, a, b, channel, t int) (int, api.Errno) {
	if Check(x) != api.OK {
		return 0, api.ErrArg
	}
	if !isNode(a) || !isNode(b) || !isChannel(channel) || !isTime(t) {
		return 0, api.ErrRange
	}
	return least(x.Fades, between(a, b), on(channel), at(t)), api.OK
}

// Signal returns the signal of a node at another one.
func Signal(s api.Site, x api.Spectrum, a, b, channel, t int) (int, api.Errno) {
	sent, err := unfaded(s, x, a, b)
	if err != api.OK {
		return 0, err
	}
	if !isChannel(channel) || !isTime(t) {
		return 0, api.ErrRange
	}
	return power.Scale(sent, least(x.Fades, between(a, b), on(channel), at(t)))
}

// Worst returns the least signal of a node at another one. Each fading has some channel, so the condition for it is left out.
func Worst(s api.Site, x api.Spectrum, a, b int) (int, api.Errno) {
	sent, err := unfaded(s, x, a, b)
	if err != api.OK {
		return 0, err
	}
	return power.Scale(sent, least(x.Fades, between(a, b), ever()))
}

// unfaded returns the power of a node at another one, if the site and the spectrum are valid.
func unfaded(s api.Site, x api.Spectrum, a, b int) (int, api.Errno) {
	if Check(x) != api.OK {
		return 0, api.ErrArg
	}
	return geometry.Between(s, a, b)
}
