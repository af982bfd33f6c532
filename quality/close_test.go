package quality_test

import (
	"math"
	"math/rand"
	"slices"
	"testing"

	"hopmesh/api"
	"hopmesh/quality"
)

// rules are those by which a round is closed.
type rules struct{ window, low, high, least int }

// usual are the rules of the chapter's example.
var usual = rules{4, 500, 900, 2}

// end closes a round.
func end(t *testing.T, l api.Learner, r rules) (api.Learner, api.Errno) {
	t.Helper()
	return apart(t, func(l ...api.Learner) (api.Learner, api.Errno) {
		return quality.Close(l[0], r.window, r.low, r.high, r.least)
	}, l)
}

// ending is a learner with the one behind the round.
type ending struct {
	name    string
	l, want api.Learner
	r       rules
}

// compare closes rounds.
func compare(t *testing.T, endings []ending) {
	t.Helper()
	for _, c := range endings {
		if got, e := end(t, c.l, c.r); !same(got, c.want) || e != api.OK {
			t.Errorf("%s: %v, error %d, want %v", c.name, got, e, c.want)
		}
	}
}

func TestExample(t *testing.T) {
	l := learner(0, tried(3, 1, 4))
	for i, want := range []api.Learner{learner(1, black(3, 2, 1)), learner(2, held(3, 1))} {
		l, _ = end(t, l, usual)
		if !same(l, want) {
			t.Fatalf("round %d: %v, want %v", i, l, want)
		}
	}
	tried(3, 1, 4)(&l)
	for i, want := range []api.Learner{learner(3, black(3, 5, 2)), learner(4, black(3, 5, 2)), learner(5, held(3, 2))} {
		l, _ = end(t, l, usual)
		if !same(l, want) {
			t.Fatalf("round %d: %v, want %v", i+2, l, want)
		}
	}
	tried(3, 4, 4)(&l)
	if l, _ = end(t, l, usual); !same(l, learner(6)) {
		t.Fatalf("round 5: %v", l)
	}
}

func TestWhichChannelsAreBad(t *testing.T) {
	compare(t, []ending{
		{"no attempts", learner(7), learner(8), usual}, {"no attempts, by the strictest rules", learner(7), learner(8), rules{1, 1000, 1000, 1}},
		{"just Window attempts", learner(7, tried(3, 0, 4)), learner(8, black(3, 9, 1)), usual}, {"one less", learner(7, tried(3, 0, 3)), learner(8), usual}, {"one more", learner(7, tried(3, 0, 5)), learner(8, black(3, 9, 1)), usual}, {"just 1000 attempts", learner(7, tried(3, 0, 1000)), learner(8, black(3, 9, 1)), rules{1000, 1, 1, 1}}, {"one less than 1000", learner(7, tried(3, 0, 999)), learner(8), rules{1000, 1, 1, 1}}, {"one attempt", learner(7, tried(3, 0, 1)), learner(8, black(3, 9, 1)), rules{1, 1, 1, 1}},
		{"just at Low", learner(7, tried(3, 2, 4)), learner(8), usual}, {"one less than Low", learner(7, tried(3, 499, 1000)), learner(8, black(3, 9, 1)), usual}, {"just at Low in thousandths", learner(7, tried(3, 2, 3)), learner(8), rules{3, 666, 900, 1}}, {"one less than Low in thousandths", learner(7, tried(3, 2, 3)), learner(8, black(3, 9, 1)), rules{3, 667, 900, 1}}, {"just less than 1", learner(7, tried(3, 1999, 2000)), learner(8, black(3, 9, 1)), rules{3, 1000, 1000, 1}}, {"just 1", learner(7, tried(3, 2000, 2000)), learner(8), rules{3, 1000, 1000, 1}},
		{"Low is 0", learner(7, tried(3, 0, 4)), learner(8), rules{4, 0, 900, 1}}, {"Low is 1", learner(7, tried(3, 0, 4)), learner(8, black(3, 9, 1)), rules{4, 1, 900, 1}}, {"the first and the last channel", learner(7, tried(0, 0, 4), tried(15, 1, 4)), learner(8, black(0, 9, 1), black(15, 9, 1)), usual},
		{"as many attempts as there can be", learner(7, tried(0, most/2, most), tried(15, most/2-1, most)), learner(8, black(15, 9, 1)), usual},
		{"some good and some bad ones", learner(7, tried(0, 4, 4), tried(1, 1, 4), tried(2, 3, 4), tried(3, 0, 9)), learner(8, black(1, 9, 1), black(3, 9, 1)), usual},
	})
}

func TestWhichChannelsAreProved(t *testing.T) {
	compare(t, []ending{
		{"just at High", learner(7, held(3, 8), tried(3, 9, 10)), learner(8), usual}, {"one less than High", learner(7, held(3, 8), tried(3, 899, 1000)), learner(8, held(3, 8)), usual}, {"just at High in thousandths", learner(7, held(3, 8), tried(3, 2, 3)), learner(8), rules{3, 500, 666, 1}}, {"one less than High in thousandths", learner(7, held(3, 8), tried(3, 2, 3)), learner(8, held(3, 8)), rules{3, 500, 667, 1}}, {"just less than 1", learner(7, held(3, 8), tried(3, 1999, 2000)), learner(8, held(3, 8)), rules{4, 500, 1000, 1}}, {"just 1", learner(7, held(3, 8), tried(3, 2000, 2000)), learner(8), rules{4, 500, 1000, 1}},
		{"just Window attempts", learner(7, held(3, 8), tried(3, 4, 4)), learner(8), usual}, {"one less", learner(7, held(3, 8), tried(3, 3, 3)), learner(8, held(3, 8)), usual}, {"no attempts", learner(7, held(3, 8)), learner(8, held(3, 8)), usual}, {"no attempts, and High is 0", learner(7, held(3, 8)), learner(8, held(3, 8)), rules{1, 0, 0, 1}}, {"nothing was acknowledged, and High is 0", learner(7, held(3, 8), tried(3, 0, 4)), learner(8), rules{4, 0, 0, 1}}, {"just at Low and High", learner(7, held(3, 8), tried(3, 2, 4)), learner(8), rules{4, 500, 500, 1}},
		{"neither bad nor proved", learner(7, held(3, 8), tried(3, 3, 4)), learner(8, held(3, 8)), usual}, {"without a hold", learner(7, tried(3, 4, 4)), learner(8), usual}, {"the first and the last channel", learner(7, held(0, 1), held(15, 64), tried(0, 4, 4), tried(15, 4, 4)), learner(8), usual},
		{"a bad one that stays is not proved", learner(7, held(3, 8), tried(3, 0, 4)), learner(8, held(3, 8)), rules{4, 500, 900, 16}},
		{"one of two", learner(7, held(3, 8), held(4, 8), tried(3, 4, 4), tried(4, 1, 4)), learner(8, black(4, 24, 16)), usual},
	})
}

func TestHowLongChannelsAreBlacklisted(t *testing.T) {
	for hold, want := range map[int]int{0: 1, 1: 2, 2: 4, 4: 8, 8: 16, 16: 32, 32: 64, 64: 64} {
		compare(t, []ending{{"a bad channel", learner(7, held(3, hold), tried(3, 1, 4)), learner(8, black(3, 8+want, want)), usual}, {"in round 0", learner(0, held(15, hold), tried(15, 1, 4)), learner(1, black(15, 1+want, want)), usual}})
	}
	compare(t, []ending{
		{"tried again in the next round", learner(7, black(3, 8, 4)), learner(8, held(3, 4)), usual}, {"tried again one round later", learner(7, black(3, 9, 4)), learner(8, black(3, 9, 4)), usual}, {"tried again 63 rounds later", learner(7, black(3, 71, 4)), learner(8, black(3, 71, 4)), usual}, {"the first and the last channel", learner(7, black(0, 8, 1), black(15, 8, 64)), learner(8, held(0, 1), held(15, 64)), usual},
		{"what was tried while it was blacklisted does not matter", learner(7, black(3, 9, 4), black(4, 9, 8), tried(3, 0, 9), tried(4, 9, 9)), learner(8, black(3, 9, 4), black(4, 9, 8)), usual}, {"nor if it is tried again", learner(7, black(3, 8, 4), black(4, 8, 8), tried(3, 0, 9), tried(4, 9, 9)), learner(8, held(3, 4), held(4, 8)), usual},
		{"the last round but one", learner(lastRound-1, held(3, 64), black(4, lastRound, 8), tried(3, 1, 4)), learner(lastRound, black(3, lastRound+64, 64), held(4, 8)), usual}, {"round 0", learner(0), learner(1), usual},
	})
}

func TestHowManyChannelsAreBlacklisted(t *testing.T) {
	allBad := all(func(channel int) change { return tried(channel, 0, 4) })
	rest := func(channel int) change { return black(channel, 40, 32) }
	compare(t, []ending{
		{"equal rates, one stays", learner(7, allBad), learner(8, all(func(channel int) change { return black(channel, 9, 1) }), held(15, 0)), rules{4, 500, 900, 1}}, {"equal rates, 13 stay", learner(7, allBad), learner(8, black(0, 9, 1), black(1, 9, 1), black(2, 9, 1)), rules{4, 500, 900, 13}}, {"equal rates, 15 stay", learner(7, allBad), learner(8, black(0, 9, 1)), rules{4, 500, 900, 15}}, {"equal rates, all stay", learner(7, allBad), learner(8), rules{4, 500, 900, 16}},
		{"equal rates of different counts", learner(7, tried(5, 2, 8), tried(3, 1, 4), tried(9, 25, 100)), learner(8, black(3, 9, 1), black(5, 9, 1)), rules{4, 500, 900, 14}},
		{"the least rate first", learner(7, tried(2, 1, 4), tried(9, 0, 4), tried(5, 1, 5)), learner(8, black(9, 9, 1), black(5, 9, 1)), rules{4, 500, 900, 14}}, {"the least rate alone", learner(7, tried(2, 1, 4), tried(9, 0, 4), tried(5, 1, 5)), learner(8, black(9, 9, 1)), rules{4, 500, 900, 15}},
		{"equal in thousandths only", learner(7, tried(2, 1, 3), tried(9, 333, 1000)), learner(8, black(9, 9, 1)), rules{3, 500, 900, 15}}, {"equal in thousandths only, many attempts", learner(7, tried(2, most/4, most), tried(9, most/4-1, most)), learner(8, black(9, 9, 1)), rules{3, 500, 900, 15}},
		{"more attempts do not matter", learner(7, tried(2, 40, 100), tried(9, 1, 4)), learner(8, black(9, 9, 1)), rules{4, 500, 900, 15}},
		{"what is blacklisted already does not count", learner(7, all(rest), held(3, 0), held(4, 0), held(5, 0), tried(3, 0, 4), tried(4, 0, 4), tried(5, 0, 4)), learner(8, all(rest), black(3, 9, 1), held(4, 0), held(5, 0)), usual}, {"just Least", learner(7, all(rest), held(3, 0), held(4, 0), tried(3, 0, 4), tried(4, 0, 4)), learner(8, all(rest), held(3, 0), held(4, 0)), usual}, {"less than Least", learner(7, all(rest), held(3, 0), tried(3, 0, 4)), learner(8, all(rest), held(3, 0)), usual}, {"none", learner(7, all(rest), tried(3, 0, 4)), learner(8, all(rest)), usual},
		{"what is tried again does not count", learner(7, all(rest), black(2, 8, 1), held(3, 0), held(4, 0), tried(3, 0, 4)), learner(8, all(rest), held(2, 1), held(3, 0), held(4, 0)), usual},
		{"a hold of one that stays is kept", learner(7, held(2, 4), held(9, 4), tried(2, 1, 4), tried(9, 0, 4)), learner(8, held(2, 4), black(9, 16, 8)), rules{4, 500, 900, 15}},
	})
}

func TestErrorsOfClose(t *testing.T) {
	for _, c := range []struct {
		r    rules
		want api.Errno
	}{
		{rules{0, 500, 900, 2}, api.ErrRange}, {rules{1, 500, 900, 2}, api.OK}, {rules{1000, 500, 900, 2}, api.OK}, {rules{1001, 500, 900, 2}, api.ErrRange}, {rules{-1, 500, 900, 2}, api.ErrRange}, {rules{math.MinInt, 500, 900, 2}, api.ErrRange}, {rules{math.MaxInt, 500, 900, 2}, api.ErrRange},
		{rules{4, -1, 900, 2}, api.ErrRange}, {rules{4, 0, 900, 2}, api.OK}, {rules{4, 0, 0, 2}, api.OK}, {rules{4, 900, 900, 2}, api.OK}, {rules{4, 901, 900, 2}, api.ErrRange}, {rules{4, 1, 0, 2}, api.ErrRange}, {rules{4, 1000, 1000, 2}, api.OK}, {rules{4, 1001, 1000, 2}, api.ErrRange}, {rules{4, 1001, 1001, 2}, api.ErrRange}, {rules{4, 500, 1001, 2}, api.ErrRange}, {rules{4, 500, 1000, 2}, api.OK}, {rules{4, -1, -1, 2}, api.ErrRange}, {rules{4, math.MinInt, math.MaxInt, 2}, api.ErrRange},
		{rules{4, 500, 900, 0}, api.ErrRange}, {rules{4, 500, 900, 1}, api.OK}, {rules{4, 500, 900, 16}, api.OK}, {rules{4, 500, 900, 17}, api.ErrRange}, {rules{4, 500, 900, -1}, api.ErrRange}, {rules{4, 500, 900, math.MinInt}, api.ErrRange}, {rules{4, 500, 900, math.MaxInt}, api.ErrRange}, {rules{}, api.ErrRange},
	} {
		if _, e := end(t, learner(7, tried(3, 1, 4)), c.r); e != c.want {
			t.Errorf("%v: error %d, want %d", c.r, e, c.want)
		}
		want := c.want
		if want == api.OK {
			want = api.ErrFull
		}
		if _, e := end(t, learner(lastRound), c.r); e != want {
			t.Errorf("%v in the last round: error %d, want %d", c.r, e, want)
		}
		for name, l := range bad() {
			if _, e := end(t, l, c.r); e != api.ErrArg {
				t.Errorf("%s, %v: error %d", name, c.r, e)
			}
		}
	}
	if _, e := end(t, learner(lastRound, black(3, lastRound+1, 1)), usual); e != api.ErrFull {
		t.Errorf("the last round: error %d", e)
	}
}

// someRules returns some rules, often at the ends of their ranges.
func someRules(r *rand.Rand) rules {
	low := r.Intn(1001)
	if r.Intn(8) == 0 {
		low = 1000 * r.Intn(2)
	}
	return rules{1 + r.Intn(6), low, low + r.Intn(1001-low), 1 + r.Intn(16)}
}

// slowEnd closes a round as the definition says, one bad channel after the other.
func slowEnd(l api.Learner, r rules) api.Learner {
	l = copied(l)
	var fresh [16]bool
	for {
		open, worst := 0, -1
		for channel := range 16 {
			if l.Until[channel] != 0 {
				continue
			}
			open++
			c := l.Counts[channel]
			if c.Attempts < r.window || 1000*c.Acked/c.Attempts >= r.low {
				continue
			}
			if worst == -1 || fraction(c).Cmp(fraction(l.Counts[worst])) < 0 {
				worst = channel
			}
		}
		if worst == -1 || open <= r.least {
			break
		}
		l.Hold[worst] *= 2
		if l.Hold[worst] == 0 {
			l.Hold[worst] = 1
		}
		if l.Hold[worst] > 64 {
			l.Hold[worst] = 64
		}
		l.Until[worst] = l.Round + 1 + l.Hold[worst]
		fresh[worst] = true
	}
	for channel, c := range l.Counts {
		if l.Until[channel] == 0 && !fresh[channel] && c.Attempts >= r.window && 1000*c.Acked/c.Attempts >= r.high {
			l.Hold[channel] = 0
		}
	}
	l.Round++
	for channel := range 16 {
		if l.Until[channel] <= l.Round {
			l.Until[channel] = 0
		}
	}
	l.Counts = make([]api.Counts, 16)
	return l
}

// attempt is one on a channel.
type attempt struct {
	channel int
	acked   bool
}

// someAttempts returns some attempts of a round, on some channels mostly without success.
func someAttempts(r *rand.Rand) []attempt {
	disturbed := r.Intn(1 << 16)
	attempts := make([]attempt, r.Intn(120))
	for i := range attempts {
		channel := r.Intn(16)
		attempts[i] = attempt{channel, r.Intn(8) > 1 == (disturbed>>channel&1 == 0)}
	}
	return attempts
}

// noteAll notes attempts.
func noteAll(t *testing.T, l api.Learner, attempts []attempt) api.Learner {
	t.Helper()
	for _, a := range attempts {
		var e api.Errno
		if l, e = quality.Note(l, a.channel, a.acked); e != api.OK {
			t.Fatalf("%v: error %d", a, e)
		}
	}
	return l
}

// blacklisted returns the blacklisted channels of a learner.
func blacklisted(t *testing.T, l api.Learner) []int {
	t.Helper()
	channels, e := quality.Black(l)
	if e != api.OK {
		t.Fatalf("%v: error %d", l, e)
	}
	return channels
}

func TestSomeRounds(t *testing.T) {
	r := rand.New(rand.NewSource(2))
	newly, stopped := 0, 0
	for range 60 {
		l := quality.New()
		for range 60 {
			attempts, rules := someAttempts(r), someRules(r)
			split := r.Intn(len(attempts) + 1)
			one, other := noteAll(t, l, attempts[:split]), noteAll(t, l, attempts[split:])
			merged, e := merge(t, one, other)
			r.Shuffle(len(attempts), func(i, j int) { attempts[i], attempts[j] = attempts[j], attempts[i] })
			// neither the order of attempts matters, nor who has noted them
			if noted := noteAll(t, l, attempts); !same(noted, merged) || e != api.OK {
				t.Fatalf("%v and %v: %v, error %d, want %v", one, other, merged, e, noted)
			}
			before := blacklisted(t, merged)
			if l, e = end(t, merged, rules); !same(l, slowEnd(merged, rules)) || e != api.OK || quality.Valid(l) != api.OK {
				t.Fatalf("%v, %v: %v, error %d, want %v", merged, rules, l, e, slowEnd(merged, rules))
			}
			after := blacklisted(t, l)
			if 16-len(before) >= rules.least && 16-len(after) < rules.least {
				t.Fatalf("%v, %v: %v", merged, rules, l)
			}
			if 16-len(after) == rules.least {
				stopped++
			}
			for _, channel := range after {
				if slices.Contains(before, channel) {
					continue
				}
				newly++
				if merged.Counts[channel].Attempts == 0 {
					t.Fatalf("channel %d of %v, %v: %v", channel, merged, rules, l)
				}
			}
		}
	}
	if newly < 1000 || stopped < 100 {
		t.Errorf("%d channels were blacklisted, %d times just Least were not", newly, stopped)
	}
}

func TestChannelsAreTriedAgain(t *testing.T) {
	r := rand.New(rand.NewSource(3))
	l, longest := quality.New(), 0
	var since [16]int
	for range 2000 {
		for channel := range 8 {
			l = noteAll(t, l, slices.Repeat([]attempt{{channel, r.Intn(20) == 0}}, 4))
		}
		var e api.Errno
		if l, e = end(t, l, usual); e != api.OK {
			t.Fatalf("error %d", e)
		}
		black := blacklisted(t, l)
		for channel := range 16 {
			if slices.Contains(black, channel) {
				since[channel]++
			} else {
				since[channel] = 0
			}
			longest = max(longest, since[channel])
		}
	}
	if longest != 64 {
		t.Errorf("a channel was blacklisted for %d rounds", longest)
	}
}
