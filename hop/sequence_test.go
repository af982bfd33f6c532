package hop_test

import (
	"math"
	"math/rand"
	"slices"
	"testing"

	"hopmesh/api"
	"hopmesh/hop"
)

// three returns a sequence of three lists.
func three() []api.HopList {
	return []api.HopList{list(254, 5, 10, 11, 12, 15), list(255, 10, 11, 3), list(0, 11, 300, 15, 11)}
}

// changed returns the three lists with a change of one of them.
func changed(i int, change func(l *api.HopList)) []api.HopList {
	l := three()
	change(&l[i])
	return l
}

// many returns a sequence of n lists, in force in two slots each.
func many(n int) []api.HopList {
	l := make([]api.HopList, n)
	for i := range l {
		l[i] = list(i%256, 2*i, 2*i+2, i%16)
	}
	return l
}

// copiedAll returns a copy of a sequence that shares no memory with it.
func copiedAll(l []api.HopList) []api.HopList {
	c := make([]api.HopList, len(l))
	for i := range l {
		c[i] = copied(l[i])
	}
	return c
}

// sequence is a sequence of lists with the error of its check.
type sequence struct {
	name string
	l    []api.HopList
	want api.Errno
}

// sequences returns sequences, also such that are not valid.
func sequences() []sequence {
	s := []sequence{
		{"no list", nil, api.ErrArg}, {"an empty sequence", []api.HopList{}, api.ErrArg}, {"one list", three()[:1], api.OK}, {"two lists", three()[1:], api.OK}, {"three lists", three(), api.OK}, {"1024 lists", many(1024), api.OK}, {"1025 lists", many(1025), api.ErrArg}, {"1025 lists, a gap", append(many(1024), list(0, 5000, 5001, 1)), api.ErrArg},
		{"from 0 to the end", []api.HopList{list(9, 0, 7, 1), list(10, 7, mostUntil, 1)}, api.OK},
		{"a gap", changed(1, func(l *api.HopList) { l.First, l.Until = 11, 12 }), api.ErrOrder}, {"a gap of one slot before the last one", changed(2, func(l *api.HopList) { l.First = 12 }), api.ErrOrder}, {"a great gap", changed(2, func(l *api.HopList) { l.First = 299 }), api.ErrOrder},
		{"an overlap", changed(1, func(l *api.HopList) { l.First = 9 }), api.ErrOrder}, {"an overlap of the last one", changed(2, func(l *api.HopList) { l.First = 10 }), api.ErrOrder}, {"the same slots", []api.HopList{list(1, 5, 10, 1), list(2, 5, 10, 1)}, api.ErrOrder}, {"backwards", []api.HopList{list(1, 10, 20, 1), list(2, 5, 10, 1)}, api.ErrOrder},
		{"a version is skipped", changed(2, func(l *api.HopList) { l.Version = 1 }), api.ErrVersion}, {"a version is repeated", changed(1, func(l *api.HopList) { l.Version = 254 }), api.ErrVersion}, {"a version before", changed(1, func(l *api.HopList) { l.Version = 253 }), api.ErrVersion}, {"255 is repeated", changed(2, func(l *api.HopList) { l.Version = 255 }), api.ErrVersion}, {"0 is repeated", []api.HopList{list(0, 5, 10, 1), list(0, 10, 11, 1)}, api.ErrVersion}, {"254 behind 255", []api.HopList{list(255, 5, 10, 1), list(254, 10, 11, 1)}, api.ErrVersion}, {"0 behind 254", []api.HopList{list(254, 5, 10, 1), list(0, 10, 11, 1)}, api.ErrVersion},
		// several errors
		{"256 behind 255", changed(2, func(l *api.HopList) { l.Version = 256 }), api.ErrArg}, {"an overlap, and no version", changed(2, func(l *api.HopList) { l.First, l.Version = 10, -1 }), api.ErrArg}, {"a gap, and no channels", changed(1, func(l *api.HopList) { l.First, l.Until, l.Channels = 20, 30, nil }), api.ErrArg},
		{"an overlap, and a version is repeated", changed(1, func(l *api.HopList) { l.First, l.Version = 9, 254 }), api.ErrOrder}, {"a gap, and a version is skipped", changed(2, func(l *api.HopList) { l.First, l.Version = 12, 1 }), api.ErrOrder},
		{"a gap, and then no channels", append(changed(2, func(l *api.HopList) { l.First = 12 }), list(1, 300, 301)), api.ErrOrder}, {"a version is skipped, and then a gap", append(changed(2, func(l *api.HopList) { l.Version = 1 }), list(2, 301, 302, 1)), api.ErrVersion}, {"a version is skipped, and then no slot", append(changed(2, func(l *api.HopList) { l.Version = 1 }), list(2, 300, 300, 1)), api.ErrVersion}, {"a gap, and then a version is skipped", append(changed(2, func(l *api.HopList) { l.First = 12 }), list(2, 300, 302, 1)), api.ErrOrder},
		{"no channels, and then a gap", append(changed(2, func(l *api.HopList) { l.Channels = nil }), list(1, 301, 302, 1)), api.ErrArg},
	}
	for name, l := range bad() {
		s = append(s, sequence{name, []api.HopList{l}, api.ErrArg}, sequence{name + " at last", append(three(), l), api.ErrArg}, sequence{name + " at first", append([]api.HopList{l}, three()...), api.ErrArg}, sequence{name + " in the middle", []api.HopList{three()[0], l, three()[1]}, api.ErrArg})
	}
	return s
}

func TestCheckAll(t *testing.T) {
	for _, s := range sequences() {
		if e := hop.CheckAll(s.l); e != s.want {
			t.Errorf("%s: error %d, want %d", s.name, e, s.want)
		}
	}
}

func TestErrorsOfInForce(t *testing.T) {
	for _, s := range sequences() {
		for _, slot := range []int{-1, 5, 10, mostUntil, math.MinInt, math.MaxInt} {
			got, e := hop.InForce(s.l, slot)
			if s.want != api.OK && e != s.want || e != api.OK && !same(got, api.HopList{}) {
				t.Errorf("%s, slot %d: %v, error %d, want error %d", s.name, slot, got, e, s.want)
			}
		}
	}
}

func TestInForce(t *testing.T) {
	for slot, want := range map[int]int{5: 0, 7: 0, 9: 0, 10: 1, 11: 2, 100: 2, 299: 2} {
		if got, e := hop.InForce(three(), slot); !same(got, three()[want]) || e != api.OK {
			t.Errorf("slot %d: %v, error %d, want %v", slot, got, e, three()[want])
		}
	}
	for _, slot := range []int{4, 0, -1, 300, 301, mostUntil, math.MinInt, math.MaxInt} {
		if got, e := hop.InForce(three(), slot); !same(got, api.HopList{}) || e != api.ErrNotFound {
			t.Errorf("slot %d: %v, error %d", slot, got, e)
		}
	}
	for _, slot := range []int{0, lastSlot} {
		if got, e := hop.InForce([]api.HopList{of(3, 1)}, slot); !same(got, of(3, 1)) || e != api.OK {
			t.Errorf("slot %d of all: %v, error %d", slot, got, e)
		}
	}
}

func TestExactlyOneListIsInForce(t *testing.T) {
	l := many(1024)
	for _, slot := range []int{0, 1, 2, 3, 4, 510, 511, 512, 513, 514, 1023, 1024, 2044, 2045, 2046, 2047} {
		if got, e := hop.InForce(l, slot); !same(got, l[slot/2]) || e != api.OK {
			t.Errorf("slot %d: %v, error %d", slot, got, e)
		}
	}
	for _, slot := range []int{-1, 2048} {
		if _, e := hop.InForce(l, slot); e != api.ErrNotFound {
			t.Errorf("slot %d: error %d", slot, e)
		}
	}
	l = three()
	for slot := range 310 {
		var count int
		for _, one := range l {
			if _, e := hop.Channel(one, slot, 0); e == api.OK {
				count++
			}
		}
		_, e := hop.InForce(l, slot)
		if inside := 5 <= slot && slot < 300; inside != (count == 1) || inside != (e == api.OK) {
			t.Errorf("slot %d: %d lists, error %d", slot, count, e)
		}
	}
}

func TestInForceSharesNoMemory(t *testing.T) {
	l := three()
	got, _ := hop.InForce(l, 7)
	again, _ := hop.InForce(l, 7)
	got.Channels[0] = 5
	if !slices.EqualFunc(l, three(), same) || !same(again, three()[0]) {
		t.Errorf("a change of a result shows in the argument %v, or in another result %v", l, again)
	}
	l[0].Channels[1] = 6
	if !same(again, three()[0]) {
		t.Errorf("a change of the argument shows in a result: %v", again)
	}
}

func TestNext(t *testing.T) {
	for _, c := range []struct {
		name     string
		l        api.HopList
		until    int
		channels []int
		want     api.HopList
	}{
		{"the same channels", list(3, 10, 20, 11, 12), 30, []int{11, 12}, list(4, 20, 30, 11, 12)}, {"other channels", list(3, 10, 20, 11, 12), 30, []int{15, 0, 7}, list(4, 20, 30, 15, 0, 7)}, {"16 channels", list(3, 10, 20, 11, 12), 30, upTo(16), list(4, 20, 30, upTo(16)...)},
		{"version 255", list(255, 10, 20, 11), 30, []int{1}, list(0, 20, 30, 1)}, {"version 254", list(254, 10, 20, 11), 30, []int{1}, list(255, 20, 30, 1)}, {"version 0", list(0, 10, 20, 11), 30, []int{1}, list(1, 20, 30, 1)},
		{"one slot", list(3, 10, 20, 11), 21, []int{1}, list(4, 20, 21, 1)}, {"up to the last slot", list(3, 10, 20, 11), mostUntil, []int{1}, list(4, 20, mostUntil, 1)}, {"the last slot alone", list(3, 10, lastSlot, 11), mostUntil, []int{1}, list(4, lastSlot, mostUntil, 1)},
	} {
		if got, e := hop.Next(c.l, c.until, c.channels); !same(got, c.want) || e != api.OK {
			t.Errorf("%s: %v, error %d, want %v", c.name, got, e, c.want)
		}
	}
}

// noNext fails if a list has a next one.
func noNext(t *testing.T, name string, l api.HopList, until int, channels []int) {
	t.Helper()
	if got, e := hop.Next(l, until, channels); !same(got, api.HopList{}) || e != api.ErrArg {
		t.Errorf("%s: %v, error %d", name, got, e)
	}
}

func TestErrorsOfNext(t *testing.T) {
	l := list(3, 10, 20, 11, 12)
	for _, until := range []int{20, 19, 10, 0, -1, mostUntil + 1, math.MinInt, math.MaxInt} {
		noNext(t, "until", l, until, []int{1})
	}
	noNext(t, "behind the last slot", of(1), mostUntil, []int{1})
	noNext(t, "behind the last slot", of(1), mostUntil+1, []int{1})
	for name, b := range bad() {
		noNext(t, name, b, mostUntil, []int{1})
		noNext(t, name, b, -1, nil)
	}
	for _, channels := range [][]int{nil, {}, {-1}, {16}, {1, 1}, {3, 4, 3}, {1, 2, 16}, upTo(17), append(upTo(16), 0), make([]int, 5000), {math.MinInt}, {math.MaxInt}} {
		noNext(t, "channels", l, 30, channels)
	}
}

func TestNextSharesNoMemory(t *testing.T) {
	l, channels := list(3, 10, 20, 11, 12), make([]int, 3, 10)
	copy(channels, []int{7, 8, 9})
	got, _ := hop.Next(l, 30, channels)
	again, _ := hop.Next(l, 30, channels)
	got.Channels[0] = 1
	if !same(l, list(3, 10, 20, 11, 12)) || !slices.Equal(channels, []int{7, 8, 9}) || !same(again, list(4, 20, 30, 7, 8, 9)) {
		t.Errorf("a change of a result shows in the arguments %v and %v, or in another result %v", l, channels, again)
	}
	channels[1] = 2
	if !same(again, list(4, 20, 30, 7, 8, 9)) {
		t.Errorf("a change of the argument shows in a result: %v", again)
	}
}

func TestNextListsAreASequence(t *testing.T) {
	r := rand.New(rand.NewSource(1))
	l := []api.HopList{list(200, 3, 8, 4, 5)}
	for len(l) < 400 {
		last := l[len(l)-1]
		next, e := hop.Next(last, last.Until+1+r.Intn(9), r.Perm(16)[:1+r.Intn(16)])
		if e != api.OK || !hop.Newer(next.Version, last.Version) || hop.Newer(last.Version, next.Version) {
			t.Fatalf("behind %v: %v, error %d", last, next, e)
		}
		l = append(l, next)
	}
	if e := hop.CheckAll(l); e != api.OK {
		t.Fatalf("error %d", e)
	}
	i := 0
	for slot := 3; slot < l[399].Until; slot++ {
		if slot == l[i].Until {
			i++
		}
		if got, e := hop.InForce(l, slot); !same(got, l[i]) || e != api.OK {
			t.Fatalf("slot %d: %v, error %d, want %v", slot, got, e, l[i])
		}
	}
}

func TestNewer(t *testing.T) {
	for _, c := range []struct {
		a, b int
		want bool
	}{
		{3, 250, true}, {250, 3, false}, {0, 255, true}, {255, 0, false}, {0, 0, false}, {255, 255, false}, {1, 0, true}, {0, 1, false}, {127, 0, true}, {0, 127, false}, {128, 0, false}, {0, 128, false}, {129, 0, false}, {0, 129, true}, {200, 73, true}, {200, 72, false}, {72, 200, false}, {71, 200, true}, {73, 200, false}, {200, 71, false}, {71, 199, false}, {70, 199, true}, {72, 199, false},
		{256, 255, false}, {0, -1, false}, {-1, 255, false}, {255, 256, false}, {256, 200, false}, {200, 256, false}, {-1, -2, false}, {257, 256, false}, {100, -1, false}, {-1, 200, false}, {math.MinInt, 0, false}, {0, math.MinInt, false}, {math.MaxInt, 0, false}, {0, math.MaxInt, false}, {math.MinInt, math.MaxInt, false}, {math.MaxInt, math.MinInt, false},
	} {
		if got := hop.Newer(c.a, c.b); got != c.want {
			t.Errorf("%d is newer than %d: %t", c.a, c.b, got)
		}
	}
}

func TestNewerOfAllVersions(t *testing.T) {
	for b := range 256 {
		a := b
		for steps := range 256 {
			if got := hop.Newer(a, b); got != (1 <= steps && steps <= 127) {
				t.Errorf("%d is newer than %d: %t", a, b, got)
			}
			if a++; a == 256 {
				a = 0
			}
		}
	}
}

func TestSequencesAreNotModified(t *testing.T) {
	for _, s := range sequences() {
		l := copiedAll(s.l)
		hop.CheckAll(s.l)
		hop.InForce(s.l, 7)
		if !slices.EqualFunc(s.l, l, same) {
			t.Errorf("%s: modified: %v", s.name, s.l)
		}
	}
}
