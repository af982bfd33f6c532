package timesync

import (
	"slices"

	"hopmesh/api"
	"hopmesh/clock"
)

// pair is a node and its time parent in a slot in which the node is corrected.
type pair struct {
	node, parent api.Synced
	slot         int
}

// hear returns the state of the node that hears a frame of its parent.
func (p pair) hear() (api.Synced, api.Errno) {
	t, err := clock.Send(p.parent.Clock, p.slot)
	if err != api.OK {
		return api.Synced{}, err
	}
	return Hear(p.node, p.slot, t)
}

// acked returns the state of the node whose frame is acknowledged by its parent.
func (p pair) acked() (api.Synced, api.Errno) {
	t, err := clock.Send(p.node.Clock, p.slot)
	if err != api.OK {
		return api.Synced{}, err
	}
	// the parent is valid, and what is sent in a slot is sent at a time
	difference, _ := Measure(p.parent.Clock, p.slot, t)
	return Acked(p.node, p.slot, difference)
}

// kindOf returns what a step makes of a pair.
func kindOf(step api.Sync) func(pair) (api.Synced, api.Errno) {
	if step.Acked {
		return pair.acked
	}
	return pair.hear
}

// Run returns the states behind corrections.
func Run(l []api.Synced, parents []int, steps []api.Sync) ([]api.Synced, int, api.Errno) {
	if _, err := Depths(parents); err != api.OK {
		return nil, -1, err
	}
	if len(l) != len(parents) || !areValid(l) || len(steps) > api.MaxList {
		return nil, -1, api.ErrArg
	}
	states := slices.Clone(l)
	for i, step := range steps {
		if !within(step.Node, 1, len(states)-1) {
			return nil, i, api.ErrNotFound
		}
		corrected, err := kindOf(step)(pair{states[step.Node], states[parents[step.Node]], step.Slot})
		if err != api.OK {
			return nil, i, err
		}
		states[step.Node] = corrected
	}
	return states, -1, api.OK
}
