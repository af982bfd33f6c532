package air

import (
	"iter"

	"hopmesh/api"
	"hopmesh/power"
	"hopmesh/spectrum"
)

// medium has valid emissions on a site with a spectrum. Strong decides whether a signal is received with some interference.
type medium struct {
	site      api.Site
	spectrum  api.Spectrum
	emissions []api.Emission
	strong    func(signal, interference int) bool
}

// newMedium returns the medium of emissions that are valid.
func newMedium(s api.Site, x api.Spectrum, l []api.Emission) medium {
	return medium{site: s, spectrum: x, emissions: l, strong: func(signal, interference int) bool {
		// the margin is compared because all external transmitters together can be more than one power, which power.Received does not take
		margin, _ := power.Margin(signal, s.Threshold, s.Noise)
		return interference <= margin
	}}
}

// overlapping yields the other emissions that overlap one, with their indices.
func (m medium) overlapping(i int) iter.Seq2[int, api.Emission] {
	return func(yield func(int, api.Emission) bool) {
		for other, e := range m.emissions {
			if other != i && Overlap(e, m.emissions[i]) && !yield(other, e) {
				return
			}
		}
	}
}

// disturbing yields the emissions that count in the interference with one at a node, with their indices.
func (m medium) disturbing(i, node int) iter.Seq2[int, api.Emission] {
	return func(yield func(int, api.Emission) bool) {
		for other, e := range m.overlapping(i) {
			if e.Channel == m.emissions[i].Channel && e.Node != node && !yield(other, e) {
				return
			}
		}
	}
}

// signal returns the signal of an emission at a node.
func (m medium) signal(e api.Emission, node int) int {
	signal, _ := spectrum.Signal(m.site, m.spectrum, e.Node, node, e.Channel, e.From)
	return signal
}

// external returns the external power at a node during an emission.
func (m medium) external(i, node int) int {
	e := m.emissions[i]
	sum, _ := spectrum.External(m.site, m.spectrum, node, e.Channel, e.From, e.To)
	return sum
}

// interference returns the interference with an emission at a node.
func (m medium) interference(i, node int) int {
	sum := m.external(i, node)
	for _, e := range m.disturbing(i, node) {
		sum += m.signal(e, node)
	}
	return sum
}

// emits says whether a node sends an emission itself, or emits meanwhile.
func (m medium) emits(i, node int) bool {
	if m.emissions[i].Node == node {
		return true
	}
	for _, e := range m.overlapping(i) {
		if e.Node == node {
			return true
		}
	}
	return false
}

// received says whether an emission is received by a node.
func (m medium) received(i, node int) bool {
	return m.receivedWith(i, node, m.interference(i, node))
}

// receivedAlone says whether an emission would be received by a node without interference from other nodes.
func (m medium) receivedAlone(i, node int) bool {
	return m.receivedWith(i, node, m.external(i, node))
}

// receivedWith says whether an emission is received by a node with some interference.
func (m medium) receivedWith(i, node, interference int) bool {
	return !m.emits(i, node) && m.strong(m.signal(m.emissions[i], node), interference)
}

// heard returns the first emission that a listening node receives. No two emissions that begin at one time are received by it on one channel.
func (m medium) heard(y api.Listening) (int, bool) {
	first, found := 0, false
	for i, e := range m.emissions {
		if e.Channel != y.Channel || !within(e.From, y.From, y.To) || found && m.emissions[first].From <= e.From {
			continue
		}
		if m.received(i, y.Node) {
			first, found = i, true
		}
	}
	return first, found
}
