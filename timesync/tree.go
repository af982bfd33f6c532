package timesync

import "hopmesh/api"

// Depths returns the depths of the nodes of a tree.
func Depths(parents []int) ([]int, api.Errno) {
	if !haveParents(parents) {
		return nil, api.ErrArg
	}
	depths := make([]int, len(parents))
nodes:
	for node := range parents {
		at := node
		for depth := range len(parents) {
			if at == 0 {
				depths[node] = depth
				continue nodes
			}
			at = parents[at]
		}
		// whoever is not led to 0 in fewer steps than there are nodes is led around a cycle
		return nil, api.ErrArg
	}
	return depths, api.OK
}

// haveParents says whether a list has 1 to MaxNodes nodes, and a node as the parent of each one but 0.
func haveParents(parents []int) bool {
	if !within(len(parents), 1, api.MaxNodes) || parents[0] != -1 {
		return false
	}
	for _, parent := range parents[1:] {
		if !within(parent, 0, len(parents)-1) {
			return false
		}
	}
	return true
}
