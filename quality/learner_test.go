package quality_test

import (
	"math"
	"slices"
	"testing"

	"hopmesh/api"
	"hopmesh/hop"
	"hopmesh/quality"
)

// lastRound is the last round of a learner.
const lastRound = 1073741824

// change is a change of a learner.
type change func(l *api.Learner)

// learner returns a learner in a round, with changes.
func learner(round int, changes ...change) api.Learner {
	l := api.Learner{Round: round, Counts: make([]api.Counts, 16), Until: make([]int, 16), Hold: make([]int, 16)}
	for _, c := range changes {
		c(&l)
	}
	return l
}

// tried makes attempts on a channel.
func tried(channel, acked, attempts int) change {
	return func(l *api.Learner) { l.Counts[channel] = of(acked, attempts) }
}

// black blacklists a channel.
func black(channel, until, hold int) change {
	return func(l *api.Learner) { l.Until[channel], l.Hold[channel] = until, hold }
}

// held says that a channel was blacklisted.
func held(channel, hold int) change { return black(channel, 0, hold) }

// copied returns a copy of a learner that shares no memory with it.
func copied(l api.Learner) api.Learner {
	l.Counts, l.Until, l.Hold = slices.Clone(l.Counts), slices.Clone(l.Until), slices.Clone(l.Hold)
	return l
}

// same says whether two learners are equal.
func same(a, b api.Learner) bool {
	return a.Round == b.Round && slices.Equal(a.Counts, b.Counts) && slices.Equal(a.Until, b.Until) && slices.Equal(a.Hold, b.Hold)
}

// spoil changes everything in a learner.
func spoil(l api.Learner) {
	for i := range l.Counts {
		l.Counts[i] = of(3, 77)
	}
	for i := range l.Until {
		l.Until[i] += 5
	}
	for i := range l.Hold {
		l.Hold[i] += 3
	}
}

// apart calls a function of learners, and fails if they are modified, if the result shares memory with them or with another result, or if there is one together with an error.
func apart(t *testing.T, call func(l ...api.Learner) (api.Learner, api.Errno), l ...api.Learner) (api.Learner, api.Errno) {
	t.Helper()
	var before, used []api.Learner
	for _, one := range l {
		before, used = append(before, copied(one)), append(used, copied(one))
	}
	got, e := call(used...)
	again, _ := call(used...)
	kept := copied(got)
	spoil(again)
	if !slices.EqualFunc(used, before, same) || !same(got, kept) {
		t.Errorf("%v: modified, or a change of a result shows: %v, %v", before, used, got)
	}
	for _, one := range used {
		spoil(one)
	}
	if !same(got, kept) {
		t.Errorf("%v: a change of the argument shows in the result: %v, not %v", before, got, kept)
	}
	if e != api.OK && !same(got, api.Learner{}) {
		t.Errorf("%v: %v, error %d", before, got, e)
	}
	return got, e
}

// note notes an attempt.
func note(t *testing.T, l api.Learner, channel int, acked bool) (api.Learner, api.Errno) {
	t.Helper()
	return apart(t, func(l ...api.Learner) (api.Learner, api.Errno) { return quality.Note(l[0], channel, acked) }, l)
}

// merge merges learners.
func merge(t *testing.T, a, b api.Learner) (api.Learner, api.Errno) {
	t.Helper()
	return apart(t, func(l ...api.Learner) (api.Learner, api.Errno) { return quality.Merge(l[0], l[1]) }, a, b)
}

// all returns the change of all channels.
func all(c func(channel int) change) change {
	return func(l *api.Learner) {
		for channel := range 16 {
			c(channel)(l)
		}
	}
}

// good returns valid learners.
func good() map[string]api.Learner {
	m := map[string]api.Learner{
		"round 0": learner(0), "the last round": learner(lastRound), "the last round, blacklisted": learner(lastRound, black(0, lastRound+64, 64), black(1, lastRound+1, 1)), "the last round but one": learner(lastRound - 1),
		"until the next round": learner(7, black(3, 8, 1)), "until 64 rounds later": learner(7, black(3, 71, 1)), "until the next round, on the last channel": learner(0, black(15, 1, 64)), "until 64 rounds after 0": learner(0, black(0, 64, 2)), "an until greater than the hold": learner(7, black(3, 20, 2)),
		"all are blacklisted": learner(7, all(func(channel int) change { return black(channel, 8+channel, 1<<(channel%7)) })), "all were tried": learner(7, all(func(channel int) change { return tried(channel, channel, 16) })), "a blacklisted channel was tried": learner(7, black(3, 9, 2), tried(3, 1, 2)),
		"as many attempts as there can be": learner(7, tried(0, 0, most), tried(15, most, most)),
	}
	for _, hold := range []int{1, 2, 4, 8, 16, 32, 64} {
		m["hold "+string(rune('A'+hold))] = learner(7, held(0, hold), held(15, hold), black(8, 9, hold))
	}
	return m
}

// bad returns learners that are not valid.
func bad() map[string]api.Learner {
	m := map[string]api.Learner{
		"nothing": {}, "round -1": learner(-1), "round -1, until 0": learner(-1, held(3, 1)), "behind the last round": learner(lastRound + 1), "a small round": learner(math.MinInt), "a great round": learner(math.MaxInt), "a great round, blacklisted": learner(math.MaxInt, black(3, math.MinInt, 1)),
		"until this round": learner(7, black(3, 7, 1)), "until an earlier round": learner(7, black(3, 1, 1)), "until -1": learner(7, black(3, -1, 1)), "until -1 in round 0": learner(0, black(3, -1, 1)), "until 65 rounds later": learner(7, black(3, 72, 64)), "until 65 rounds after 0": learner(0, black(0, 65, 64)), "until a small round": learner(7, black(15, math.MinInt, 1)), "until a great round": learner(7, black(15, math.MaxInt, 1)), "until 65 rounds behind the last one": learner(lastRound, black(3, lastRound+65, 64)), "until the last round in it": learner(lastRound, black(3, lastRound, 64)),
		"until without a hold": learner(7, black(3, 9, 0)), "until without a hold, on the last channel": learner(7, black(15, 9, 0)), "until without a hold, on the first channel": learner(7, black(0, 9, 0)),
		"15 counts": learner(7, func(l *api.Learner) { l.Counts = l.Counts[:15] }), "17 counts": learner(7, func(l *api.Learner) { l.Counts = append(l.Counts, of(0, 0)) }), "no counts": learner(7, func(l *api.Learner) { l.Counts = nil }),
		"15 untils": learner(7, func(l *api.Learner) { l.Until = l.Until[:15] }), "17 untils": learner(7, func(l *api.Learner) { l.Until = append(l.Until, 0) }), "no untils": learner(7, func(l *api.Learner) { l.Until = nil }),
		"15 holds": learner(7, func(l *api.Learner) { l.Hold = l.Hold[:15] }), "17 holds": learner(7, func(l *api.Learner) { l.Hold = append(l.Hold, 0) }), "no holds": learner(7, func(l *api.Learner) { l.Hold = nil }),
		"15 of each": learner(7, func(l *api.Learner) { l.Counts, l.Until, l.Hold = l.Counts[:15], l.Until[:15], l.Hold[:15] }),
	}
	for i, hold := range []int{-1, 3, 5, 6, 7, 9, 12, 15, 31, 33, 48, 63, 65, 96, 127, 128, 256, -2, -64, math.MinInt, math.MaxInt, 1 << 40, 1 << 62} {
		m["no hold "+string(rune('A'+i))] = learner(7, held(3, hold))
		m["no hold, blacklisted "+string(rune('A'+i))] = learner(7, black(15, 9, hold))
	}
	for i, c := range badCounts() {
		m["no counts "+string(rune('A'+i))] = learner(7, tried(i%16, c.Acked, c.Attempts))
	}
	return m
}

func TestNew(t *testing.T) {
	l := quality.New()
	if !same(l, learner(0)) || quality.Valid(l) != api.OK {
		t.Errorf("%v", l)
	}
	spoil(l)
	if !same(quality.New(), learner(0)) {
		t.Error("two learners share memory")
	}
}

func TestValid(t *testing.T) {
	for name, l := range good() {
		before := copied(l)
		if e := quality.Valid(l); e != api.OK || !same(l, before) {
			t.Errorf("%s: error %d, %v", name, e, l)
		}
	}
	for name, l := range bad() {
		before := copied(l)
		if e := quality.Valid(l); e != api.ErrArg || !same(l, before) {
			t.Errorf("%s: error %d, %v", name, e, l)
		}
	}
}

func TestNote(t *testing.T) {
	for name, l := range good() {
		for _, channel := range []int{0, 1, 7, 15} {
			for _, acked := range []bool{false, true} {
				want := copied(l)
				want.Counts[channel].Attempts++
				if acked {
					want.Counts[channel].Acked++
				}
				got, e := note(t, l, channel, acked)
				if full := l.Counts[channel].Attempts == most; full && e != api.ErrFull || !full && (!same(got, want) || e != api.OK) {
					t.Errorf("%s, channel %d, %t: %v, error %d, want %v", name, channel, acked, got, e, want)
				}
			}
		}
	}
	if got, e := note(t, learner(7, tried(15, 9, most-1)), 15, true); !same(got, learner(7, tried(15, 10, most))) || e != api.OK {
		t.Errorf("%v, error %d", got, e)
	}
}

func TestErrorsOfNote(t *testing.T) {
	full := learner(7, tried(3, 9, most))
	for _, channel := range []int{-1, 16, 17, math.MinInt, math.MaxInt} {
		if _, e := note(t, full, channel, true); e != api.ErrRange {
			t.Errorf("channel %d: error %d", channel, e)
		}
		for name, l := range bad() {
			if _, e := note(t, l, channel, true); e != api.ErrArg {
				t.Errorf("%s, channel %d: error %d", name, channel, e)
			}
		}
	}
	for name, l := range bad() {
		if _, e := note(t, l, 3, false); e != api.ErrArg {
			t.Errorf("%s: error %d", name, e)
		}
	}
	for _, acked := range []bool{false, true} {
		if _, e := note(t, full, 3, acked); e != api.ErrFull {
			t.Errorf("error %d", e)
		}
		if _, e := note(t, full, 4, acked); e != api.OK {
			t.Errorf("another channel: error %d", e)
		}
	}
}

func TestBlack(t *testing.T) {
	for _, c := range []struct {
		name string
		l    api.Learner
		want []int
	}{
		{"none", learner(0), nil}, {"none, but with a hold", learner(7, held(3, 4), held(0, 64)), nil}, {"none, but tried without success", learner(7, tried(3, 0, 9)), nil},
		{"the first one", learner(7, black(0, 8, 1)), []int{0}}, {"the last one", learner(7, black(15, 71, 64)), []int{15}}, {"some", learner(7, black(9, 8, 1), black(2, 40, 64), held(3, 4), black(11, 9, 2)), []int{2, 9, 11}},
		{"all", learner(7, all(func(channel int) change { return black(channel, 8+channel, 16) })), []int{0, 1, 2, 3, 4, 5, 6, 7, 8, 9, 10, 11, 12, 13, 14, 15}},
	} {
		before := copied(c.l)
		got, e := quality.Black(c.l)
		if !slices.Equal(got, c.want) || e != api.OK || !same(c.l, before) {
			t.Errorf("%s: %v, error %d, want %v", c.name, got, e, c.want)
		}
		for i := range got {
			got[i] = 99
		}
		if again, _ := quality.Black(c.l); !same(c.l, before) || !slices.Equal(again, c.want) {
			t.Errorf("%s: a change of the result shows in %v or %v", c.name, c.l, again)
		}
	}
	for name, l := range bad() {
		if got, e := quality.Black(l); len(got) > 0 || e != api.ErrArg {
			t.Errorf("%s: %v, error %d", name, got, e)
		}
	}
}

func TestWhatIsBlacklistedIsLeftOutOfTheList(t *testing.T) {
	channels := []int{11, 12, 15, 3}
	got, _ := quality.Black(learner(7, black(15, 8, 1), black(12, 40, 64), held(11, 1)))
	if stay, e := hop.Without(channels, got, 1); !slices.Equal(stay, []int{11, 3}) || e != api.OK {
		t.Errorf("%v, error %d", stay, e)
	}
}

func TestMerge(t *testing.T) {
	same16 := all(func(channel int) change { return black(channel, 8, 2) })
	for _, c := range []struct {
		name       string
		a, b, want api.Learner
	}{
		{"no attempts", learner(7), learner(7), learner(7)}, {"round 0", learner(0), learner(0), learner(0)}, {"the last round", learner(lastRound), learner(lastRound), learner(lastRound)},
		{"only one has attempts", learner(7, tried(3, 1, 2)), learner(7), learner(7, tried(3, 1, 2))}, {"only the other one has attempts", learner(7), learner(7, tried(15, 1, 2)), learner(7, tried(15, 1, 2))},
		{"on the same channel", learner(7, tried(3, 1, 2)), learner(7, tried(3, 5, 9)), learner(7, tried(3, 6, 11))}, {"on different channels", learner(7, tried(3, 1, 2)), learner(7, tried(4, 5, 9)), learner(7, tried(3, 1, 2), tried(4, 5, 9))}, {"on the first and the last one", learner(7, tried(0, 1, 2), tried(15, 3, 3)), learner(7, tried(0, 5, 9), tried(15, 0, 4)), learner(7, tried(0, 6, 11), tried(15, 3, 7))},
		{"just 2^30 attempts", learner(7, tried(3, 1, most-9)), learner(7, tried(3, 5, 9)), learner(7, tried(3, 6, most))}, {"2^30 attempts and none", learner(7, tried(15, most, most)), learner(7), learner(7, tried(15, most, most))}, {"none and 2^30 attempts", learner(7), learner(7, tried(0, most, most)), learner(7, tried(0, most, most))}, {"2^30 attempts on different channels", learner(7, tried(0, 0, most)), learner(7, tried(1, 4, most)), learner(7, tried(0, 0, most), tried(1, 4, most))},
		{"blacklisted and held", learner(7, same16, held(3, 8), tried(4, 1, 1)), learner(7, same16, held(3, 8), tried(4, 0, 2)), learner(7, same16, held(3, 8), tried(4, 1, 3))},
	} {
		if got, e := merge(t, c.a, c.b); !same(got, c.want) || e != api.OK {
			t.Errorf("%s: %v, error %d, want %v", c.name, got, e, c.want)
		}
		if got, e := merge(t, c.b, c.a); !same(got, c.want) || e != api.OK {
			t.Errorf("%s, exchanged: %v, error %d, want %v", c.name, got, e, c.want)
		}
	}
}

func TestErrorsOfMerge(t *testing.T) {
	for _, c := range []struct {
		name string
		a, b api.Learner
		want api.Errno
	}{
		{"rounds", learner(7), learner(8), api.ErrMismatch}, {"the round before", learner(1), learner(0), api.ErrMismatch}, {"untils", learner(7, black(3, 9, 2)), learner(7, black(3, 10, 2)), api.ErrMismatch}, {"blacklisted or not", learner(7, black(3, 9, 2)), learner(7, held(3, 2)), api.ErrMismatch}, {"the last until", learner(7, black(15, 9, 2)), learner(7, black(15, 8, 2)), api.ErrMismatch}, {"the first until", learner(7, black(0, 9, 2)), learner(7, black(0, 8, 2)), api.ErrMismatch},
		{"holds", learner(7, held(3, 2)), learner(7, held(3, 4)), api.ErrMismatch}, {"the last hold", learner(7, held(15, 2)), learner(7), api.ErrMismatch}, {"the first hold", learner(7, held(0, 2)), learner(7), api.ErrMismatch}, {"a hold of another channel", learner(7, held(3, 2)), learner(7, held(4, 2)), api.ErrMismatch},
		{"one more than 2^30", learner(7, tried(3, 1, most-8)), learner(7, tried(3, 5, 9)), api.ErrFull}, {"one more than 2^30, on the first channel", learner(7, tried(0, 1, most)), learner(7, tried(0, 0, 1)), api.ErrFull}, {"one more than 2^30, on the last channel", learner(7, tried(15, 1, most)), learner(7, tried(15, 0, 1)), api.ErrFull}, {"2^31", learner(7, tried(3, most, most)), learner(7, tried(3, most, most)), api.ErrFull},
		{"rounds, and full", learner(7, tried(3, 0, most)), learner(8, tried(3, 0, most)), api.ErrMismatch}, {"holds, and full", learner(7, tried(3, 0, most), held(15, 2)), learner(7, tried(3, 0, most)), api.ErrMismatch}, {"untils, and full", learner(7, tried(3, 0, most), black(15, 9, 2)), learner(7, tried(3, 0, most), black(15, 8, 2)), api.ErrMismatch},
	} {
		if _, e := merge(t, c.a, c.b); e != c.want {
			t.Errorf("%s: error %d, want %d", c.name, e, c.want)
		}
		if _, e := merge(t, c.b, c.a); e != c.want {
			t.Errorf("%s, exchanged: error %d, want %d", c.name, e, c.want)
		}
	}
	for name, l := range bad() {
		for _, other := range []api.Learner{learner(7), learner(8, tried(3, 0, most)), copied(l)} {
			if _, e := merge(t, l, other); e != api.ErrArg {
				t.Errorf("%s: error %d", name, e)
			}
			if _, e := merge(t, other, l); e != api.ErrArg {
				t.Errorf("%s, exchanged: error %d", name, e)
			}
		}
	}
}
