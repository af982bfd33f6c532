package timesync_test

import (
	"math"
	"math/rand"
	"slices"
	"testing"

	"hopmesh/api"
	"hopmesh/timesync"
)

// chain returns the parents of n nodes, each of which is led by the one before it.
func chain(n int) []int {
	parents := make([]int, n)
	for i := range parents {
		parents[i] = i - 1
	}
	return parents
}

// star returns the parents of n nodes that are led by 0.
func star(n int) []int {
	parents := make([]int, n)
	parents[0] = -1
	return parents
}

// numbers returns the numbers from 0 to n - 1.
func numbers(n int) []int {
	l := make([]int, n)
	for i := range l {
		l[i] = i
	}
	return l
}

func TestDepths(t *testing.T) {
	for _, c := range []struct {
		name          string
		parents, want []int
	}{
		{"one node", []int{-1}, []int{0}}, {"two nodes", []int{-1, 0}, []int{0, 1}},
		{"a chain", chain(6), numbers(6)}, {"a chain of 32", chain(32), numbers(32)}, {"a chain that leads downwards", []int{-1, 2, 3, 4, 0}, []int{0, 4, 3, 2, 1}},
		{"a star", star(6), []int{0, 1, 1, 1, 1, 1}}, {"a star of 32", star(32), append([]int{0}, slices.Repeat([]int{1}, 31)...)},
		{"a tree", []int{-1, 0, 0, 1, 1, 2, 5, 6}, []int{0, 1, 1, 2, 2, 2, 3, 4}}, {"a tree in another order", []int{-1, 4, 7, 2, 0, 1, 0, 4}, []int{0, 2, 3, 4, 1, 3, 1, 2}},
	} {
		before := slices.Clone(c.parents)
		if got, e := timesync.Depths(c.parents); !slices.Equal(got, c.want) || e != api.OK {
			t.Errorf("%s: %v, error %d, want %v", c.name, got, e, c.want)
		}
		if !slices.Equal(before, c.parents) {
			t.Errorf("%s: the parents are modified: %v", c.name, c.parents)
		}
	}
}

// noTrees returns lists that are no trees.
func noTrees() map[string][]int {
	return map[string][]int{
		"nil": nil, "no nodes": {}, "33 nodes in a chain": chain(33), "33 nodes in a star": star(33), "many nodes": star(5000),
		"a cycle of all but 0": {-1, 2, 3, 1}, "a cycle of two": {-1, 0, 3, 2}, "a cycle behind a node": {-1, 2, 3, 2}, "a node behind a cycle": {-1, 0, 1, 4, 5, 4}, "a cycle of 31": append([]int{-1, 31}, numbers(31)[1:]...),
		"its own parent": {-1, 1}, "the last one is its own parent": {-1, 0, 2}, "led to its own parent": {-1, 2, 2},
		"a parent behind the last one": {-1, 0, 3}, "the only other one has no node as its parent": {-1, 2}, "a great parent": {-1, 0, math.MaxInt}, "a second -1": {-1, -1}, "a second -1 at the end": {-1, 0, -1}, "-2": {-1, 0, -2}, "a small parent": {-1, 0, math.MinInt}, "32 of 32": append(star(31), 32),
		"0 at 0": {0}, "0 has a parent": {0, 0}, "0 in a cycle": {1, 0}, "0 in a cycle of three": {2, 0, 1}, "-1 not at 0": {1, -1}, "-1 at the end": {1, 2, -1}, "-2 at 0": {-2, 0}, "a small number at 0": {math.MinInt, 0}, "a great number at 0": {math.MaxInt, 0},
	}
}

func TestListsThatAreNoTrees(t *testing.T) {
	for name, parents := range noTrees() {
		before := slices.Clone(parents)
		if got, e := timesync.Depths(parents); len(got) > 0 || e != api.ErrArg {
			t.Errorf("%s: %v, error %d", name, got, e)
		}
		if !slices.Equal(before, parents) {
			t.Errorf("%s: the parents are modified: %v", name, parents)
		}
	}
}

// slowDepths finds depths level by level: nil if a node is on none.
func slowDepths(parents []int) []int {
	depths := slices.Repeat([]int{-1}, len(parents))
	depths[0] = 0
	for level := 1; level < len(parents); level++ {
		for node := 1; node < len(parents); node++ {
			if depths[node] < 0 && depths[parents[node]] == level-1 {
				depths[node] = level
			}
		}
	}
	if slices.Contains(depths, -1) {
		return nil
	}
	return depths
}

func TestDepthsOfSomeLists(t *testing.T) {
	r := rand.New(rand.NewSource(1))
	seen := map[bool]int{}
	for range 20000 {
		n := 1 + r.Intn(7)
		if r.Intn(10) == 0 {
			n = 1 + r.Intn(32)
		}
		parents := []int{-1}
		for range n - 1 {
			parents = append(parents, r.Intn(n))
		}
		want := slowDepths(parents)
		got, e := timesync.Depths(parents)
		if !slices.Equal(got, want) || (e == api.OK) != (want != nil) || e != api.OK && e != api.ErrArg {
			t.Fatalf("%v: %v, error %d, want %v", parents, got, e, want)
		}
		seen[want != nil]++
	}
	if seen[true] < 1000 || seen[false] < 1000 {
		t.Errorf("seen: %v", seen)
	}
}

func TestResultsOfDepthsShareNoMemory(t *testing.T) {
	parents := chain(4)
	first, _ := timesync.Depths(parents)
	first[1], first[3] = 77, 78
	if second, e := timesync.Depths(parents); !slices.Equal(second, numbers(4)) || e != api.OK || !slices.Equal(parents, chain(4)) {
		t.Errorf("%v, error %d, parents %v", second, e, parents)
	}
}
