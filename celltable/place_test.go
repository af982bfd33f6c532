package celltable_test

import (
	"math"
	"slices"
	"testing"

	"hopmesh/api"
	"hopmesh/celltable"
)

// all returns a mask that leaves everything free.
func all(length int) api.Free {
	return slices.Repeat(api.Free{65535}, length)
}

// spot returns a place.
func spot(slot, offset int) api.Spot { return api.Spot{Slot: slot, Offset: offset} }

// badMasks returns masks that are none for a length of at least 2.
func badMasks(length int) map[string]api.Free {
	masks := map[string]api.Free{"none": nil, "an empty one": {}, "too short": all(length - 1), "too long": all(length + 1)}
	for name, n := range map[string]int{"-1": -1, "65536": 65536, "the least number": math.MinInt, "the greatest one": math.MaxInt, "a high bit": 1<<40 + 1} {
		for _, at := range []int{0, length / 2, length - 1} {
			f := all(length)
			f[at] = n
			masks[name+" "+string(rune('a'+at))] = f
		}
	}
	return masks
}

func TestFits(t *testing.T) {
	m, f := mixed(), all(7)
	for slot := range 7 {
		for offset := range 16 {
			want := slot == 3 || slot == 5
			if got := celltable.Fits(m, f, spot(slot, offset)); got != want {
				t.Errorf("slot %d, offset %d: %v", slot, offset, got)
			}
		}
	}
	for _, s := range []api.Spot{spot(-1, 0), spot(7, 0), spot(10, 0), spot(3, -1), spot(3, 16), spot(-1, -1), spot(7, 16), spot(math.MinInt, 0), spot(math.MaxInt, 0), spot(3, math.MinInt), spot(3, math.MaxInt), spot(3, 64), spot(3, 63)} {
		if celltable.Fits(m, f, s) {
			t.Errorf("%v", s)
		}
	}
	if !celltable.Fits(table(0, 1), all(1), spot(0, 15)) || !celltable.Fits(table(31, 512), all(512), spot(511, 0)) {
		t.Error("at the ends")
	}
}

func TestFitsWithEachKindInASlot(t *testing.T) {
	for _, c := range []api.TableCell{control(1, 4, true, 1, 0), control(1, 4, false, 1, 0), agreed(1, 4, true, 1), agreed(1, 4, false, 1), shared(1, 4)} {
		for offset := range 16 {
			if celltable.Fits(table(0, 3, c), all(3), spot(1, offset)) {
				t.Errorf("%v, offset %d", c, offset)
			}
			if !celltable.Fits(table(0, 3, c), all(3), spot(0, offset)) || !celltable.Fits(table(0, 3, c), all(3), spot(2, offset)) {
				t.Errorf("%v, offset %d, beside it", c, offset)
			}
		}
	}
}

func TestFitsWithSingleBits(t *testing.T) {
	for bit := range 16 {
		for _, f := range []api.Free{{65535, 1 << bit}, {0, 1 << bit}} {
			for offset := range 16 {
				if got := celltable.Fits(table(0, 2), f, spot(1, offset)); got != (offset == bit) {
					t.Errorf("%v, offset %d: %v", f, offset, got)
				}
			}
		}
		if celltable.Fits(table(0, 2), api.Free{65535, 65535 &^ (1 << bit)}, spot(1, bit)) {
			t.Errorf("offset %d is not free", bit)
		}
	}
}

func TestPlacesOfWhatIsNotRight(t *testing.T) {
	for name, f := range badMasks(7) {
		if celltable.Fits(table(0, 7), f, spot(3, 0)) || celltable.Fits(mixed(), f, spot(3, 0)) {
			t.Errorf("%s: fits", name)
		}
		if got := celltable.Candidates(table(0, 7), f, 9); len(got) != 0 {
			t.Errorf("%s: %v", name, got)
		}
	}
	for name, x := range wrong() {
		for _, f := range []api.Free{all(7), all(max(0, x.Length)), nil} {
			if celltable.Fits(x, f, spot(5, 0)) || celltable.Fits(x, f, spot(0, 0)) {
				t.Errorf("%s: fits", name)
			}
			if got := celltable.Candidates(x, f, 9); len(got) != 0 {
				t.Errorf("%s: %v", name, got)
			}
		}
	}
}

func TestCandidates(t *testing.T) {
	x, f := table(0, 7, control(1, 0, true, 1, 0), agreed(3, 0, true, 2), shared(5, 0)), api.Free{6, 65535, 0, 1, 32768, 1, 65528}
	want := []api.Spot{spot(0, 1), spot(4, 15), spot(6, 3)}
	for n, count := range map[int]int{-1: 0, 0: 0, 1: 1, 2: 2, 3: 3, 4: 3, 512: 3, math.MaxInt: 3, math.MinInt: 0} {
		got, again := celltable.Candidates(x, f, n), celltable.Candidates(x, f, n)
		clear(again)
		if !slices.Equal(got, want[:count]) {
			t.Errorf("%d: %v", n, got)
		}
	}
	if !slices.Equal(f, api.Free{6, 65535, 0, 1, 32768, 1, 65528}) || !same(x, table(0, 7, control(1, 0, true, 1, 0), agreed(3, 0, true, 2), shared(5, 0))) {
		t.Errorf("modified: %v, %v", x, f)
	}
	for name, x := range map[string]struct {
		table api.Table
		f     api.Free
		want  []api.Spot
	}{
		"no bit":       {table(0, 3), api.Free{0, 0, 0}, nil},
		"no free slot": {table(0, 2, shared(0, 0), shared(1, 0)), all(2), nil},
		"one slot":     {table(0, 1), api.Free{5}, []api.Spot{spot(0, 0)}},
		"no bit 0":     {table(0, 2), api.Free{12, 8}, []api.Spot{spot(0, 2), spot(1, 3)}},
	} {
		if got := celltable.Candidates(x.table, x.f, 512); !slices.Equal(got, x.want) {
			t.Errorf("%s: %v", name, got)
		}
	}
	if got := celltable.Candidates(table(0, 512), all(512), 600); len(got) != 512 || got[511] != spot(511, 0) {
		t.Errorf("%d places", len(got))
	}
}
