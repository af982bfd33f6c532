package timesync_test

import (
	"math"
	"math/rand"
	"slices"
	"testing"

	"hopmesh/api"
	"hopmesh/clock"
	"hopmesh/guard"
	"hopmesh/timesync"
)

// hears and acked return corrections.
func hears(node, slot int) api.Sync { return api.Sync{Node: node, Slot: slot} }
func acked(node, slot int) api.Sync { return api.Sync{Node: node, Slot: slot, Acked: true} }

// run runs steps, and fails if arguments are modified, or if there are other results than zero together with an error.
func run(t *testing.T, l []api.Synced, parents []int, steps []api.Sync) ([]api.Synced, int, api.Errno) {
	t.Helper()
	l1, parents1, steps1 := slices.Clone(l), slices.Clone(parents), slices.Clone(steps)
	got, i, e := timesync.Run(l, parents, steps)
	if !slices.Equal(l, l1) || !slices.Equal(parents, parents1) || !slices.Equal(steps, steps1) {
		t.Errorf("the arguments are modified: %v, %v, %v", l, parents, steps)
	}
	if e != api.OK && len(got) > 0 || e == api.OK && (i != -1 || len(got) != len(l)) {
		t.Errorf("%v, %v, %v: %v, %d, error %d", l, parents, steps, got, i, e)
	}
	return got, i, e
}

// row returns the states of four nodes in a row.
func row() []api.Synced {
	return []api.Synced{never(0, 0), never(40, 0), never(-100, 0), never(7, mostDrift)}
}

func TestRun(t *testing.T) {
	for _, c := range []struct {
		name    string
		parents []int
		steps   []api.Sync
		want    []api.Synced
	}{
		{"no steps", chain(4), nil, row()}, {"empty steps", star(4), []api.Sync{}, row()},
		{"one hears", chain(4), []api.Sync{hears(1, 1)}, []api.Synced{never(0, 0), state(0, 0, 1, 1), never(-100, 0), never(7, mostDrift)}},
		{"one is acknowledged", chain(4), []api.Sync{acked(1, 1)}, []api.Synced{never(0, 0), state(0, 0, 1, 1), never(-100, 0), never(7, mostDrift)}},
		// the parent shows the sending time at 12080
		{"by a parent that is not corrected", chain(4), []api.Sync{hears(2, 1)}, []api.Synced{never(0, 0), never(40, 0), state(40, 0, 1, 1), never(7, mostDrift)}},
		{"acknowledged by a parent that is not corrected", chain(4), []api.Sync{acked(2, 1)}, []api.Synced{never(0, 0), never(40, 0), state(40, 0, 1, 1), never(7, mostDrift)}},
		{"in the order of the depths", chain(4), []api.Sync{hears(1, 1), hears(2, 1), hears(3, 1)}, []api.Synced{never(0, 0), state(0, 0, 1, 1), state(0, 0, 1, 1), state(-1, mostDrift, 1, 1)}},
		{"in the opposite order", chain(4), []api.Sync{hears(3, 1), hears(2, 1), hears(1, 1)}, []api.Synced{never(0, 0), state(0, 0, 1, 1), state(40, 0, 1, 1), state(-101, mostDrift, 1, 1)}},
		{"both kinds", chain(4), []api.Sync{acked(1, 1), hears(2, 1), acked(3, 1)}, []api.Synced{never(0, 0), state(0, 0, 1, 1), state(0, 0, 1, 1), state(-1, mostDrift, 1, 1)}},
		{"both kinds in the opposite order", chain(4), []api.Sync{acked(3, 1), hears(2, 1), acked(1, 1)}, []api.Synced{never(0, 0), state(0, 0, 1, 1), state(40, 0, 1, 1), state(-101, mostDrift, 1, 1)}},
		{"again and again", chain(4), []api.Sync{hears(1, 1), acked(2, 1), hears(1, 2), acked(1, 5), hears(2, 4)}, []api.Synced{never(0, 0), state(0, 0, 5, 3), state(0, 0, 4, 2), never(7, mostDrift)}},
		{"the slots of different nodes in any order", chain(4), []api.Sync{hears(2, 9), hears(1, 1)}, []api.Synced{never(0, 0), state(0, 0, 1, 1), state(40, 0, 9, 1), never(7, mostDrift)}},
		{"led by 0", star(4), []api.Sync{hears(3, 1), hears(2, 1), acked(1, 1)}, []api.Synced{never(0, 0), state(0, 0, 1, 1), state(0, 0, 1, 1), state(-1, mostDrift, 1, 1)}},
		// at 20002120 the clock of 3 shows 20004120 and 7 more; it shows the sending time itself at 20000113
		{"a drift is heard", star(4), []api.Sync{hears(3, 2000)}, []api.Synced{never(0, 0), never(40, 0), never(-100, 0), state(-2000, mostDrift, 2000, 1)}},
		{"a drift is acknowledged", star(4), []api.Sync{acked(3, 2000)}, []api.Synced{never(0, 0), never(40, 0), never(-100, 0), state(-2000, mostDrift, 2000, 1)}},
		{"slots at both ends", star(4), []api.Sync{hears(1, 0), acked(1, lastSlot), acked(2, 0), hears(2, lastSlot)}, []api.Synced{never(0, 0), state(0, 0, lastSlot, 2), state(0, 0, lastSlot, 2), never(7, mostDrift)}},
	} {
		got, i, e := run(t, row(), c.parents, c.steps)
		if !slices.Equal(got, c.want) || i != -1 || e != api.OK {
			t.Errorf("%s: %v, %d, error %d, want %v", c.name, got, i, e, c.want)
		}
	}
}

func TestRunOfOneNode(t *testing.T) {
	l := []api.Synced{state(3, 4, 5, 6)}
	if got, i, e := run(t, l, []int{-1}, nil); !slices.Equal(got, l) || i != -1 || e != api.OK {
		t.Errorf("%v, %d, error %d", got, i, e)
	}
	for _, node := range []int{0, 1, -1} {
		if _, i, e := run(t, l, []int{-1}, []api.Sync{hears(node, 9)}); i != 0 || e != api.ErrNotFound {
			t.Errorf("node %d: %d, error %d", node, i, e)
		}
	}
}

func TestResultsOfRunShareNoMemory(t *testing.T) {
	for _, steps := range [][]api.Sync{nil, {hears(1, 1)}} {
		l := row()
		got, _, _ := run(t, l, chain(4), steps)
		got[0], got[1], got[3] = state(9, 9, 9, 9), state(9, 9, 9, 9), state(9, 9, 9, 9)
		if !slices.Equal(l, row()) {
			t.Errorf("%v: the list is modified: %v", steps, l)
		}
	}
}

func TestErrorsOfTheArguments(t *testing.T) {
	for name, parents := range noTrees() {
		l := slices.Repeat([]api.Synced{never(0, 0)}, len(parents))
		for _, steps := range [][]api.Sync{nil, {hears(0, 1)}} {
			if _, i, e := run(t, l, parents, steps); i != -1 || e != api.ErrArg {
				t.Errorf("%s: %d, error %d", name, i, e)
			}
		}
	}
	for _, l := range [][]api.Synced{nil, row()[:3], append(row(), never(0, 0)), slices.Repeat(row(), 1000)} {
		if _, i, e := run(t, l, chain(4), []api.Sync{hears(1, 1)}); i != -1 || e != api.ErrArg {
			t.Errorf("%d states: %d, error %d", len(l), i, e)
		}
	}
	for _, s := range bad() {
		for node := range 4 {
			l := row()
			l[node] = s
			if _, i, e := run(t, l, star(4), nil); i != -1 || e != api.ErrArg {
				t.Errorf("%v: %d, error %d", l, i, e)
			}
			if _, i, e := run(t, l, star(4), []api.Sync{hears(0, -1)}); i != -1 || e != api.ErrArg {
				t.Errorf("%v: %d, error %d", l, i, e)
			}
		}
	}
}

// hearing returns n steps in which node 1 hears 0, in the slots from 0 on.
func hearing(n int) []api.Sync {
	steps := make([]api.Sync, n)
	for i := range steps {
		steps[i] = hears(1, i)
	}
	return steps
}

func TestNumberOfSteps(t *testing.T) {
	l := []api.Synced{never(0, 0), never(5, 0)}
	if got, i, e := run(t, l, chain(2), hearing(1024)); !slices.Equal(got, []api.Synced{never(0, 0), state(0, 0, 1023, 1024)}) || i != -1 || e != api.OK {
		t.Errorf("1024 steps: %v, %d, error %d", got, i, e)
	}
	for _, steps := range [][]api.Sync{hearing(1025), append([]api.Sync{hears(0, 0)}, hearing(1024)...)} {
		if _, i, e := run(t, l, chain(2), steps); i != -1 || e != api.ErrArg {
			t.Errorf("%d steps: %d, error %d", len(steps), i, e)
		}
	}
}

func TestErrorsOfSteps(t *testing.T) {
	l := []api.Synced{
		never(0, 0), state(40, 0, 5, 2), never(4999, 0), never(5000, 0), never(-5000, 0), state(0, 0, 5, mostCount), never(-mostShift, 0), never(0, 0), state(0, 0, 5, 2), state(-mostShift, 0, 5, 2),
	}
	// 7 and 8 are led by 6, which never sends; 9 never sends itself
	parents := []int{-1, 0, 0, 0, 0, 0, 0, 6, 6, 0}
	for _, c := range []struct {
		name string
		step api.Sync
		want api.Errno
	}{
		{"0", hears(0, 6), api.ErrNotFound}, {"0, acknowledged", acked(0, 6), api.ErrNotFound}, {"10", hears(10, 6), api.ErrNotFound}, {"10, acknowledged", acked(10, 6), api.ErrNotFound}, {"-1", hears(-1, 6), api.ErrNotFound}, {"a small node", hears(math.MinInt, 6), api.ErrNotFound}, {"a great node", acked(math.MaxInt, 6), api.ErrNotFound},
		{"0 in no slot", hears(0, -1), api.ErrNotFound}, {"10 in no slot", acked(10, lastSlot+1), api.ErrNotFound},
		{"slot -1", hears(1, -1), api.ErrRange}, {"slot -1, acknowledged", acked(1, -1), api.ErrRange}, {"behind the last slot", hears(1, lastSlot+1), api.ErrRange}, {"behind the last slot, acknowledged", acked(1, lastSlot+1), api.ErrRange}, {"a small slot", hears(1, math.MinInt), api.ErrRange}, {"a great slot", acked(1, math.MaxInt), api.ErrRange}, {"the parent never sends, in no slot", hears(7, lastSlot+1), api.ErrRange},
		{"the parent never sends", hears(7, 6), api.ErrLate}, {"the parent never sends, in the slot before", hears(8, 5), api.ErrLate}, {"never sends itself", acked(6, 6), api.ErrLate}, {"never sends itself, in the slot before", acked(9, 5), api.ErrLate},
		{"the slot before", hears(1, 5), api.ErrOrder}, {"the slot before, acknowledged", acked(1, 5), api.ErrOrder}, {"an earlier slot", hears(1, 0), api.ErrOrder}, {"an earlier slot, acknowledged", acked(1, 4), api.ErrOrder}, {"the parent never sends, but the node does, in the slot before", acked(8, 5), api.ErrOrder}, {"never sends itself, but the parent does, in the slot before", hears(9, 5), api.ErrOrder},
		{"5000 too late", hears(3, 6), api.ErrLate}, {"5000 too late, acknowledged", acked(3, 6), api.ErrLate}, {"5000 too early", hears(4, 6), api.ErrLate}, {"5000 too early, acknowledged", acked(4, 6), api.ErrLate},
		{"full", hears(5, 6), api.ErrFull}, {"full, acknowledged", acked(5, 6), api.ErrFull},
	} {
		good := []api.Sync{hears(2, 6), acked(2, 7), hears(1, 6)}
		for i, steps := range [][]api.Sync{{c.step}, {c.step, good[0], good[1], good[2]}, {good[0], c.step, good[1], hears(0, 0)}, {good[0], good[1], c.step}} {
			if _, index, e := run(t, l, parents, steps); index != max(0, i-1) || e != c.want {
				t.Errorf("%s, steps %v: %d, error %d, want error %d", c.name, steps, index, e, c.want)
			}
		}
	}
	if got, i, e := run(t, l, parents, []api.Sync{hears(2, 6), acked(1, 6)}); i != -1 || e != api.OK || got[2] != state(0, 0, 6, 1) || got[1] != state(0, 0, 6, 3) {
		t.Errorf("without an error: %v, %d, error %d", got, i, e)
	}
	if _, i, e := run(t, l, parents, []api.Sync{hears(2, 6), hears(2, 7), hears(2, 7)}); i != 2 || e != api.ErrOrder {
		t.Errorf("twice in a slot: %d, error %d", i, e)
	}
}

func TestStepsWithoutAValidClockBehindThem(t *testing.T) {
	// the clock of 1 shows 1 more than the sending time of slot 10994 when 0 sends
	l := []api.Synced{never(-10000000, 0), state(-mostShift, mostDrift, 3, 4)}
	l[0].Clock.Offset = 10994*10000 + 2120 - 1099511618736
	for _, step := range []api.Sync{hears(1, 10994), acked(1, 10994)} {
		got, i, e := run(t, l, chain(2), []api.Sync{step})
		if i != 0 || e != api.ErrArg {
			t.Errorf("%v: %v, %d, error %d", step, got, i, e)
		}
	}
	l[0].Clock.Offset++
	for _, step := range []api.Sync{hears(1, 10994), acked(1, 10994)} {
		got, i, e := run(t, l, chain(2), []api.Sync{step})
		if i != -1 || e != api.OK || got[1] != state(-mostShift, mostDrift, 10994, 5) {
			t.Errorf("%v: %v, %d, error %d", step, got, i, e)
		}
	}
}

// someTree returns the parents of n nodes, with the parent of each one before it.
func someTree(r *rand.Rand, n int) []int {
	parents := []int{-1}
	shape := r.Intn(3)
	for i := 1; i < n; i++ {
		parents = append(parents, max(0, i-1-[]int{0, r.Intn(3), r.Intn(i)}[shape]))
	}
	return parents
}

// someStates returns n states whose clocks differ by less than 5000, with drifts within a bound.
func someStates(r *rand.Rand, n, drift int) []api.Synced {
	var l []api.Synced
	for range n {
		d := r.Intn(2*drift+1) - drift
		if r.Intn(2) == 0 {
			d = []int{drift, -drift}[r.Intn(2)]
		}
		l = append(l, never(r.Intn(4800)-2400, d))
	}
	return l
}

// show returns what a valid clock shows at a time.
func show(t *testing.T, c api.Clock, time int) int {
	t.Helper()
	shown, e := clock.Show(c, time)
	if e != api.OK {
		t.Fatalf("%v at %d: error %d", c, time, e)
	}
	return shown
}

// sendingTime searches all times near a slot for the first one at which a clock shows the sending time.
func sendingTime(t *testing.T, c api.Clock, slot int) int {
	t.Helper()
	x := slot*10000 + 2120
	time := max(0, x-c.Offset-2*slot-2)
	for show(t, c, time) < x {
		time++
	}
	return time
}

// play makes one correction by the definition alone, and returns the time at which the frame was sent.
func play(t *testing.T, l []api.Synced, parents []int, step api.Sync) ([]api.Synced, int) {
	t.Helper()
	node, parent, sender := l[step.Node], l[parents[step.Node]], l[parents[step.Node]]
	if step.Acked {
		sender = node
	}
	at, x := sendingTime(t, sender.Clock, step.Slot), step.Slot*10000+2120
	// at this time the corrected clock shows the sending time if it heard the frame, and what the parent shows more than the sending time is added if it sent it
	by := x - show(t, node.Clock, at)
	if step.Acked {
		by = show(t, parent.Clock, at) - x
	}
	l = slices.Clone(l)
	l[step.Node] = state(node.Clock.Offset+by, node.Clock.Drift, step.Slot, node.Count+1)
	return l, at
}

func TestSomeRuns(t *testing.T) {
	r := rand.New(rand.NewSource(2))
	for range 400 {
		n := 2 + r.Intn(31)
		l, parents := someStates(r, n, mostDrift), someTree(r, n)
		want, slots, steps := l, make([]int, n), []api.Sync{}
		for range r.Intn(60) {
			node := 1 + r.Intn(n-1)
			slots[node] += 1 + r.Intn(20)
			step := api.Sync{Node: node, Slot: slots[node], Acked: r.Intn(2) == 0}
			steps = append(steps, step)
			before := want
			var at int
			want, at = play(t, before, parents, step)
			if apart := show(t, want[node].Clock, at) - show(t, want[parents[node]].Clock, at); apart < -1 || apart > 1 {
				t.Fatalf("%v behind %v: %v is %d from its parent", before, step, want[node], apart)
			}
		}
		got, i, e := run(t, l, parents, steps)
		if !slices.Equal(got, want) || i != -1 || e != api.OK {
			t.Fatalf("%v, %v, %v: %v, %d, error %d, want %v", l, parents, steps, got, i, e, want)
		}
	}
}

func TestACorrectionChangesOneNode(t *testing.T) {
	r := rand.New(rand.NewSource(3))
	for range 2000 {
		n := 2 + r.Intn(31)
		l, parents := someStates(r, n, mostDrift), someTree(r, n)
		step := api.Sync{Node: 1 + r.Intn(n-1), Slot: 1 + r.Intn(100), Acked: r.Intn(2) == 0}
		got, _, e := run(t, l, parents, []api.Sync{step})
		if e != api.OK {
			t.Fatalf("%v, %v, %v: error %d", l, parents, step, e)
		}
		for node := range l {
			if (got[node] != l[node]) != (node == step.Node) {
				t.Fatalf("%v, %v, %v: %v", l, parents, step, got)
			}
		}
	}
}

// byDepth returns the nodes but 0 by their depths.
func byDepth(t *testing.T, parents []int) ([]int, []int) {
	t.Helper()
	depths, e := timesync.Depths(parents)
	if e != api.OK {
		t.Fatalf("%v: error %d", parents, e)
	}
	nodes := numbers(len(parents))[1:]
	slices.SortStableFunc(nodes, func(a, b int) int { return depths[a] - depths[b] })
	return nodes, depths
}

func TestSpreadBehindOneSlot(t *testing.T) {
	r := rand.New(rand.NewSource(4))
	for round := range 600 {
		n := 2 + r.Intn(31)
		l, parents, slot, last := someStates(r, n, mostDrift), someTree(r, n), 1+r.Intn(100), 0
		nodes, depths := byDepth(t, parents)
		for _, node := range nodes {
			var at int
			step := api.Sync{Node: node, Slot: slot, Acked: round%3 == 0 || round%3 == 1 && r.Intn(2) == 0}
			after, _, e := run(t, l, parents, []api.Sync{step})
			if e != api.OK {
				t.Fatalf("%v, %v, %v: error %d", l, parents, step, e)
			}
			l, at = play(t, l, parents, step)
			if !slices.Equal(l, after) {
				t.Fatalf("%v: %v, want %v", step, after, l)
			}
			last = max(last, at)
		}
		for _, d := range []int{0, 1, 100, 10000, 1000000, 40000000} {
			growth, _ := guard.Growth(d, mostDrift)
			for a := range n {
				for b := range a {
					spread, e := timesync.Spread([]api.Synced{l[a], l[b]}, last+d)
					if e != api.OK || spread > depths[a]+depths[b]+growth {
						t.Fatalf("%v, parents %v: %d and %d differ by %d, %d behind the last frame, error %d", l, parents, a, b, spread, d, e)
					}
				}
			}
		}
	}
}

func TestWhoeverWasCorrectedLatelySendsFramesThatFit(t *testing.T) {
	r := rand.New(rand.NewSource(5))
	for range 60 {
		n, drift := 2+r.Intn(31), []int{mostDrift, mostDrift, 1 + r.Intn(mostDrift)}[r.Intn(3)]
		l, parents := someStates(r, n, drift), someTree(r, n)
		nodes, depths := byDepth(t, parents)
		deepest := depths[nodes[len(nodes)-1]]
		keep, e := guard.Slots(deepest, deepest, drift)
		if e != api.OK {
			t.Fatalf("depth %d: error %d", deepest, e)
		}
		due := make([]int, n)
		for slot := 1; slot <= 1+min(3*keep, 300); slot++ {
			if slot > 1 {
				fitAll(t, r, l, slot)
			}
			for _, node := range nodes {
				// all are corrected in the first slot, and later at the last moment, or somewhat earlier
				if slot < due[node] {
					continue
				}
				due[node] = slot + keep - min(keep-1, r.Intn(3))
				l, _, e = timesync.Run(l, parents, []api.Sync{{Node: node, Slot: slot, Acked: r.Intn(2) == 0}})
				if e != api.OK {
					t.Fatalf("node %d in slot %d: error %d", node, slot, e)
				}
			}
			fitAll(t, r, l, slot)
		}
	}
}

// fitAll fails if a frame that a node sends in a slot does not fit for some other one.
func fitAll(t *testing.T, r *rand.Rand, l []api.Synced, slot int) {
	t.Helper()
	for _, sender := range l {
		receiver := l[r.Intn(len(l))]
		if fits, e := guard.Fits(sender.Clock, receiver.Clock, slot); !fits || e != api.OK {
			t.Fatalf("%v does not hear %v in slot %d, error %d", receiver, sender, slot, e)
		}
	}
}
