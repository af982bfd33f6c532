package hop_test

import (
	"math"
	"slices"
	"testing"

	"hopmesh/api"
	"hopmesh/hop"
)

const (
	// lastSlot is 2^40 / 10000, rounded down.
	lastSlot  = 109951162
	mostUntil = lastSlot + 1
)

// list returns a list.
func list(version, first, until int, channels ...int) api.HopList {
	return api.HopList{Version: version, First: first, Until: until, Channels: channels}
}

// of returns a list that is in force in all slots.
func of(channels ...int) api.HopList { return list(0, 0, mostUntil, channels...) }

// copied returns a copy of a list that shares no memory with it.
func copied(l api.HopList) api.HopList {
	l.Channels = slices.Clone(l.Channels)
	return l
}

// same says whether two lists are equal.
func same(a, b api.HopList) bool {
	return a.Version == b.Version && a.First == b.First && a.Until == b.Until && slices.Equal(a.Channels, b.Channels)
}

// upTo returns the channels from 0 to n - 1.
func upTo(n int) []int {
	channels := make([]int, n)
	for i := range channels {
		channels[i] = i
	}
	return channels
}

// good returns valid lists.
func good() map[string]api.HopList {
	return map[string]api.HopList{
		"an ordinary list": list(3, 10, 20, 11, 12, 15), "the least version": list(0, 10, 20, 11), "the greatest version": list(255, 10, 20, 11),
		"from slot 0": list(3, 0, 20, 11), "one slot": list(3, 10, 11, 11), "the first slot": list(3, 0, 1, 11), "the last slot": list(3, lastSlot, mostUntil, 11), "all slots": list(3, 0, mostUntil, 11),
		"channel 0": list(3, 10, 20, 0), "channel 15": list(3, 10, 20, 15), "decreasing": list(3, 10, 20, 15, 7, 0), "two": list(3, 10, 20, 0, 1), "16 channels": list(3, 10, 20, upTo(16)...),
		"15 channels": list(3, 10, 20, upTo(15)...),
	}
}

// bad returns lists that are not valid.
func bad() map[string]api.HopList {
	return map[string]api.HopList{
		"nothing": {}, "version -1": list(-1, 10, 20, 11), "version 256": list(256, 10, 20, 11), "a small version": list(math.MinInt, 10, 20, 11), "a great version": list(math.MaxInt, 10, 20, 11),
		"from -1": list(3, -1, 20, 11), "from a small slot": list(3, math.MinInt, 20, 11), "no slot": list(3, 10, 10, 11), "no slot at 0": list(3, 0, 0, 11), "no slot at the end": list(3, mostUntil, mostUntil, 11), "backwards": list(3, 20, 10, 11), "backwards by one": list(3, 11, 10, 11),
		"until behind the last slot": list(3, 10, mostUntil+1, 11), "behind the last slot": list(3, mostUntil, mostUntil+1, 11), "until a great slot": list(3, 10, math.MaxInt, 11), "until -1": list(3, -2, -1, 11), "until a small slot": list(3, 10, math.MinInt, 11),
		"no channels": list(3, 10, 20), "empty channels": list(3, 10, 20, []int{}...), "17 channels": list(3, 10, 20, append(upTo(16), 3)...), "17 different numbers": list(3, 10, 20, upTo(17)...), "many channels": list(3, 10, 20, make([]int, 5000)...),
		"channel -1": list(3, 10, 20, -1), "channel 16": list(3, 10, 20, 16), "a small channel": list(3, 10, 20, math.MinInt), "a great channel": list(3, 10, 20, math.MaxInt), "channel 16 at last": list(3, 10, 20, 1, 2, 16), "channel -1 in the middle": list(3, 10, 20, 1, -1, 2),
		"one twice": list(3, 10, 20, 11, 11), "0 twice": list(3, 10, 20, 0, 4, 0), "15 twice": list(3, 10, 20, 15, 2, 3, 15), "one twice among 16": list(3, 10, 20, append(upTo(15), 14)...),
	}
}

func TestCheck(t *testing.T) {
	for name, l := range good() {
		if e := hop.Check(l); e != api.OK {
			t.Errorf("%s: error %d", name, e)
		}
	}
	for name, l := range bad() {
		if e := hop.Check(l); e != api.ErrArg {
			t.Errorf("%s: error %d", name, e)
		}
	}
}

func TestChannel(t *testing.T) {
	example := of(11, 12, 15)
	last := list(7, lastSlot-2, mostUntil, 9, 4)
	for _, c := range []struct {
		l                  api.HopList
		slot, offset, want int
	}{
		{example, 4, 1, 15}, {example, 5, 1, 11}, {example, 0, 0, 11}, {example, 0, 1, 12}, {example, 0, 2, 15}, {example, 1, 0, 12}, {example, 2, 0, 15}, {example, 3, 0, 11}, {example, 2, 2, 12}, {example, 3, 2, 15},
		{of(7), 0, 0, 7}, {of(7), 1, 0, 7}, {of(7), lastSlot, 0, 7}, {of(15, 0), 6, 0, 15}, {of(15, 0), 6, 1, 0}, {of(15, 0), 7, 0, 0}, {of(15, 0), 7, 1, 15},
		// 109951162 is 1 modulo 3, 10 modulo 16, and even
		{example, lastSlot, 0, 12}, {example, lastSlot, 1, 15}, {example, lastSlot, 2, 11}, {of(upTo(16)...), lastSlot, 0, 10}, {of(upTo(16)...), lastSlot, 5, 15}, {of(upTo(16)...), lastSlot, 6, 0}, {of(upTo(16)...), lastSlot, 15, 9}, {last, lastSlot - 2, 0, 9}, {last, lastSlot - 1, 0, 4}, {last, lastSlot, 1, 4},
		// the slot counts from 0 on, not from First
		{list(3, 10, 20, 11, 12, 15), 10, 0, 12}, {list(3, 10, 20, 11, 12, 15), 10, 1, 15}, {list(3, 10, 20, 11, 12, 15), 19, 2, 11}, {list(200, 5, 6, 1, 2), 5, 0, 2},
	} {
		if got, e := hop.Channel(c.l, c.slot, c.offset); got != c.want || e != api.OK {
			t.Errorf("%v, slot %d, offset %d: channel %d, error %d, want %d", c.l, c.slot, c.offset, got, e, c.want)
		}
	}
}

// use is a slot and an offset for a list.
type use struct {
	name         string
	l            api.HopList
	slot, offset int
	want         api.Errno
}

// uses returns uses of lists, also such that are not possible.
func uses() []use {
	l := list(3, 10, 20, 11, 12, 15)
	u := []use{
		{"the first slot", l, 10, 0, api.OK}, {"the last slot", l, 19, 0, api.OK}, {"just before the first slot", l, 9, 0, api.ErrState}, {"just behind the last slot", l, 20, 0, api.ErrState}, {"slot -1", of(1), -1, 0, api.ErrState}, {"slot 0", of(1), 0, 0, api.OK}, {"the last slot of all", of(1), lastSlot, 0, api.OK}, {"behind all slots", of(1), mostUntil, 0, api.ErrState},
		{"a small slot", l, math.MinInt, 0, api.ErrState}, {"a great slot", l, math.MaxInt, 0, api.ErrState},
		{"offset -1", l, 10, -1, api.ErrRange}, {"the last offset", l, 10, 2, api.OK}, {"one offset too many", l, 10, 3, api.ErrRange}, {"a small offset", l, 10, math.MinInt, api.ErrRange}, {"a great offset", l, 10, math.MaxInt, api.ErrRange}, {"the last offset of one", of(4), 10, 0, api.OK}, {"offset 1 of one", of(4), 10, 1, api.ErrRange}, {"the last offset of 16", of(upTo(16)...), 10, 15, api.OK}, {"offset 16 of 16", of(upTo(16)...), 10, 16, api.ErrRange},
		{"no slot and no offset", l, 9, -1, api.ErrState}, {"behind the slots and no offset", l, 20, 3, api.ErrState}, {"slot -1 and no offset", of(1), -1, 1, api.ErrState},
	}
	for name, l := range bad() {
		u = append(u, use{name, l, 10, 0, api.ErrArg}, use{name + ", no slot", l, -1, 0, api.ErrArg}, use{name + ", no offset", l, 10, -1, api.ErrArg}, use{name + ", no slot and no offset", l, math.MaxInt, math.MaxInt, api.ErrArg})
	}
	return u
}

func TestErrorsOfChannel(t *testing.T) {
	for _, u := range uses() {
		if got, e := hop.Channel(u.l, u.slot, u.offset); e != u.want || e != api.OK && got != 0 {
			t.Errorf("%s: channel %d, error %d, want error %d", u.name, got, e, u.want)
		}
	}
}

func TestMeet(t *testing.T) {
	for name, l := range good() {
		for _, slot := range []int{l.First, min(l.First+1, l.Until-1), l.Until - 1} {
			for a := range len(l.Channels) {
				for b := range len(l.Channels) {
					if got, e := hop.Meet(l, slot, a, b); got != (a == b) || e != api.OK {
						t.Errorf("%s, slot %d, offsets %d and %d: %t, error %d", name, slot, a, b, got, e)
					}
				}
			}
		}
	}
}

func TestErrorsOfMeet(t *testing.T) {
	for _, u := range uses() {
		for _, offsets := range [][2]int{{u.offset, 0}, {0, u.offset}, {u.offset, u.offset}} {
			if got, e := hop.Meet(u.l, u.slot, offsets[0], offsets[1]); e != u.want || e != api.OK && got {
				t.Errorf("%s, offsets %v: %t, error %d, want error %d", u.name, offsets, got, e, u.want)
			}
		}
	}
}

func TestOffsetsOfASlotHaveDifferentChannels(t *testing.T) {
	for name, l := range good() {
		for _, slot := range []int{l.First, (l.First + l.Until) / 2, l.Until - 1} {
			var got []int
			for offset := range len(l.Channels) {
				channel, e := hop.Channel(l, slot, offset)
				if e != api.OK {
					t.Fatalf("%s, slot %d, offset %d: error %d", name, slot, offset, e)
				}
				got = append(got, channel)
			}
			want := slices.Clone(l.Channels)
			slices.Sort(got)
			slices.Sort(want)
			if !slices.Equal(got, want) {
				t.Errorf("%s, slot %d: the channels %v, want %v", name, slot, got, want)
			}
		}
	}
}

func TestAnOffsetHasEachChannelOnce(t *testing.T) {
	for n := 1; n <= 16; n++ {
		l := of(upTo(n)...)
		slices.Reverse(l.Channels)
		for _, first := range []int{0, 1, 1000, lastSlot - n + 1} {
			for offset := range n {
				var got []int
				for slot := first; slot < first+n; slot++ {
					channel, e := hop.Channel(l, slot, offset)
					if e != api.OK {
						t.Fatalf("%d channels, slot %d, offset %d: error %d", n, slot, offset, e)
					}
					got = append(got, channel)
				}
				slices.Sort(got)
				if !slices.Equal(got, upTo(n)) {
					t.Errorf("offset %d from slot %d on: the channels %v", offset, first, got)
				}
			}
		}
	}
}

func TestListsAreNotModified(t *testing.T) {
	for name, l := range good() {
		l1 := copied(l)
		hop.Check(l)
		hop.Channel(l, l.First, 0)
		hop.Meet(l, l.First, 0, 0)
		if !same(l, l1) {
			t.Errorf("%s: %v is modified: %v", name, l1, l)
		}
	}
}
