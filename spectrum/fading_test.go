package spectrum_test

import (
	"math"
	"math/rand"
	"testing"

	"hopmesh/api"
	"hopmesh/geometry"
	"hopmesh/spectrum"
)

func TestFactor(t *testing.T) {
	second := all(10, 20, 200)
	second.From = 1
	example := fades(all(0, 50, 500), second)
	one := fades(fade(func(f *api.Fade) {}))
	for _, c := range []struct {
		name             string
		x                api.Spectrum
		a, b, channel, t int
		want             int
	}{
		{"example", example, 1, 0, 3, 5, 500}, {"example", example, 1, 0, 3, 10, 200}, {"example", example, 1, 0, 3, 20, 500}, {"example", example, 1, 0, 3, 50, 1000},
		{"example, just before", example, 1, 0, 3, 9, 500}, {"example, at last", example, 1, 0, 3, 19, 200}, {"example, at last", example, 1, 0, 3, 49, 500}, {"example, at first", example, 1, 0, 3, 0, 500}, {"example, another node", example, 2, 1, 3, 10, 500},
		{"none", api.Spectrum{}, 0, 1, 0, 0, 1000}, {"none", api.Spectrum{}, 31, 31, 15, mostTime, 1000},
		{"one", one, 1, 2, 3, 10, 200}, {"one, at last", one, 1, 2, 3, 19, 200}, {"one, just before", one, 1, 2, 3, 9, 1000}, {"one, just behind", one, 1, 2, 3, 20, 1000},
		{"one, from another node", one, 0, 2, 3, 10, 1000}, {"one, to another node", one, 1, 1, 3, 10, 1000}, {"one, on another channel", one, 1, 2, 4, 10, 1000}, {"one, back", one, 2, 1, 3, 10, 1000},
		{"from any node", fades(fade(func(f *api.Fade) { f.From = -1 })), 31, 2, 3, 10, 200}, {"from any node, to another one", fades(fade(func(f *api.Fade) { f.From = -1 })), 1, 1, 3, 10, 1000},
		{"to any node", fades(fade(func(f *api.Fade) { f.To = -1 })), 1, 31, 3, 10, 200}, {"to any node, from another one", fades(fade(func(f *api.Fade) { f.To = -1 })), 2, 2, 3, 10, 1000},
		{"on any channel", fades(fade(func(f *api.Fade) { f.Channel = -1 })), 1, 2, 15, 10, 200}, {"on any channel, to another node", fades(fade(func(f *api.Fade) { f.Channel = -1 })), 1, 3, 3, 10, 1000},
		{"the first node and channel", fades(api.Fade{Until: mostTime, Factor: 7}), 0, 0, 0, 0, 7}, {"the first node and channel, others", fades(api.Fade{Until: mostTime, Factor: 7}), 1, 1, 1, 0, 1000},
		{"the last time", fades(all(0, mostTime, 7)), 0, 1, 0, mostTime - 1, 7}, {"behind the last time", fades(all(0, mostTime, 7)), 0, 1, 0, mostTime, 1000},
		{"at no time", fades(all(10, 10, 7)), 0, 1, 0, 10, 1000},
		{"nothing is left", fades(all(0, 9, 300), all(0, 9, 0)), 0, 1, 0, 5, 0}, {"all is left", fades(all(0, 9, 1000)), 0, 1, 0, 5, 1000},
		{"several, the least one last", fades(all(0, 9, 300), all(0, 9, 200)), 0, 1, 0, 5, 200}, {"several, the least one first", fades(all(0, 9, 200), all(0, 9, 300)), 0, 1, 0, 5, 200}, {"several, the least one in the middle", fades(all(0, 9, 300), all(0, 9, 200), all(0, 9, 1000)), 0, 1, 0, 5, 200},
		{"several, the least one does not apply", fades(all(0, 9, 300), all(0, 5, 200), all(6, 9, 100)), 0, 1, 0, 5, 300},
	} {
		if got, e := spectrum.Factor(c.x, c.a, c.b, c.channel, c.t); got != c.want || e != api.OK {
			t.Errorf("%s: Factor(%d, %d, %d, %d) = %d, error %d, want %d", c.name, c.a, c.b, c.channel, c.t, got, e, c.want)
		}
	}
}

func TestFactorErrors(t *testing.T) {
	for _, c := range []struct {
		a, b, channel, t int
		e                api.Errno
	}{
		{-1, 0, 0, 0, api.ErrRange}, {32, 0, 0, 0, api.ErrRange}, {0, -1, 0, 0, api.ErrRange}, {0, 32, 0, 0, api.ErrRange}, {0, 0, -1, 0, api.ErrRange}, {0, 0, 16, 0, api.ErrRange}, {0, 0, 0, -1, api.ErrRange}, {0, 0, 0, mostTime + 1, api.ErrRange},
		{math.MinInt, 0, 0, 0, api.ErrRange}, {0, math.MaxInt, 0, 0, api.ErrRange}, {0, 0, math.MaxInt, 0, api.ErrRange}, {0, 0, 0, math.MinInt, api.ErrRange}, {0, 0, 0, math.MaxInt, api.ErrRange}, {-1, -1, -1, -1, api.ErrRange},
	} {
		if got, e := spectrum.Factor(manyFades(2), c.a, c.b, c.channel, c.t); got != 0 || e != c.e {
			t.Errorf("Factor(%d, %d, %d, %d) = %d, error %d, want error %d", c.a, c.b, c.channel, c.t, got, e, c.e)
		}
	}
	for _, c := range [][4]int{{0, 0, 0, 0}, {31, 31, 15, mostTime}, {0, 31, 0, mostTime}} {
		if _, e := spectrum.Factor(manyFades(2), c[0], c[1], c[2], c[3]); e != api.OK {
			t.Errorf("Factor%v: error %d", c, e)
		}
	}
}

func TestSignal(t *testing.T) {
	wall := api.Wall{A: api.Point{X: 20}, B: api.Point{X: 20, Y: 10}, Factor: 500}
	only := fades(api.Fade{From: 0, To: 1, Channel: 3, First: 10, Until: 20, Factor: 333})
	for _, c := range []struct {
		name             string
		s                api.Site
		x                api.Spectrum
		a, b, channel, t int
		want             int
	}{
		{"no fading", row(), api.Spectrum{}, 0, 1, 3, 10, 10000}, {"no fading", row(), api.Spectrum{}, 2, 1, 3, 10, 2500}, {"no fading, a wall", row(wall), api.Spectrum{}, 0, 1, 3, 10, 5000},
		{"a fading", row(), only, 0, 1, 3, 10, 3330}, {"a fading and a wall", row(wall), only, 0, 1, 3, 10, 1665}, {"a fading, rounded", row(), fades(all(0, 9, 333)), 0, 2, 3, 0, 369},
		{"back", row(), only, 1, 0, 3, 10, 10000}, {"before", row(), only, 0, 1, 3, 9, 10000}, {"at last", row(), only, 0, 1, 3, 19, 3330}, {"behind", row(), only, 0, 1, 3, 20, 10000}, {"another channel", row(), only, 0, 1, 4, 10, 10000}, {"another node", row(), only, 0, 2, 3, 10, 1111},
		{"nothing is left", row(), fades(all(0, 9, 0)), 0, 1, 3, 8, 0}, {"the last time", row(), fades(all(0, mostTime, 0)), 0, 1, 15, mostTime, 10000},
		{"to itself", row(), api.Spectrum{}, 1, 1, 3, 10, 0}, {"to itself", row(), only, 0, 0, 3, 10, 0},
		{"external transmitters do not matter", row(), manySources(16), 0, 1, 3, 25, 10000},
	} {
		if got, e := spectrum.Signal(c.s, c.x, c.a, c.b, c.channel, c.t); got != c.want || e != api.OK {
			t.Errorf("%s: Signal(%d, %d, %d, %d) = %d, error %d, want %d", c.name, c.a, c.b, c.channel, c.t, got, e, c.want)
		}
	}
}

func TestSignalErrors(t *testing.T) {
	for _, c := range []struct {
		a, b, channel, t int
		e                api.Errno
	}{
		{-1, 0, 0, 0, api.ErrNotFound}, {3, 0, 0, 0, api.ErrNotFound}, {0, -1, 0, 0, api.ErrNotFound}, {0, 3, 0, 0, api.ErrNotFound}, {31, 0, 0, 0, api.ErrNotFound}, {0, 32, 0, 0, api.ErrNotFound}, {math.MinInt, math.MaxInt, 0, 0, api.ErrNotFound},
		{0, 1, -1, 0, api.ErrRange}, {0, 1, 16, 0, api.ErrRange}, {0, 1, 0, -1, api.ErrRange}, {0, 1, 0, mostTime + 1, api.ErrRange}, {0, 1, math.MinInt, math.MaxInt, api.ErrRange}, {1, 1, 16, 0, api.ErrRange},
		{3, 1, 16, -1, api.ErrNotFound}, {1, -1, -1, -1, api.ErrNotFound},
	} {
		if got, e := spectrum.Signal(row(), manyFades(2), c.a, c.b, c.channel, c.t); got != 0 || e != c.e {
			t.Errorf("Signal(%d, %d, %d, %d) = %d, error %d, want error %d", c.a, c.b, c.channel, c.t, got, e, c.e)
		}
		if c.e != api.ErrNotFound {
			continue
		}
		if got, e := spectrum.Worst(row(), manyFades(2), c.a, c.b); got != 0 || e != c.e {
			t.Errorf("Worst(%d, %d) = %d, error %d, want error %d", c.a, c.b, got, e, c.e)
		}
	}
}

func TestWorst(t *testing.T) {
	last := all(mostTime-1, mostTime, 300)
	for _, c := range []struct {
		name string
		x    api.Spectrum
		a, b int
		want int
	}{
		{"no fading", api.Spectrum{}, 0, 1, 10000}, {"no fading", api.Spectrum{}, 0, 2, 1111}, {"to itself", api.Spectrum{}, 1, 1, 0}, {"to itself", manyFades(1), 1, 1, 0},
		{"all", fades(all(0, mostTime, 500)), 0, 1, 5000}, {"one after the other", fades(all(0, 10, 500), all(10, 20, 200), all(20, 30, 700)), 0, 1, 2000}, {"at once", fades(all(0, 10, 500), all(0, 10, 800)), 0, 1, 5000},
		{"one time", fades(all(7, 8, 500)), 0, 1, 5000}, {"the last time", fades(last), 0, 1, 3000}, {"no time", fades(all(7, 7, 500), all(0, 0, 500), all(mostTime, mostTime, 500)), 0, 1, 10000},
		{"from the node", fades(api.Fade{From: 0, To: -1, Channel: -1, Until: 9, Factor: 500}), 0, 1, 5000}, {"from another node", fades(api.Fade{From: 1, To: -1, Channel: -1, Until: 9, Factor: 500}), 0, 1, 10000},
		{"to the node", fades(api.Fade{From: -1, To: 1, Channel: -1, Until: 9, Factor: 500}), 0, 1, 5000}, {"to another node", fades(api.Fade{From: -1, To: 0, Channel: -1, Until: 9, Factor: 500}), 0, 1, 10000},
		{"one channel", fades(api.Fade{From: 0, To: 1, Channel: 15, Until: 9, Factor: 500}), 0, 1, 5000}, {"another channel each", fades(api.Fade{From: 0, To: 1, Channel: 0, Until: 9, Factor: 500}, api.Fade{From: 0, To: 1, Channel: 1, Until: 9, Factor: 400}), 0, 1, 4000},
		{"nothing is left", fades(all(0, 9, 0)), 0, 1, 0}, {"a node that the site does not have", fades(api.Fade{From: 31, To: -1, Channel: -1, Until: 9, Factor: 0}), 0, 1, 10000},
		{"external transmitters do not matter", manySources(16), 0, 1, 10000},
	} {
		if got, e := spectrum.Worst(row(), c.x, c.a, c.b); got != c.want || e != api.OK {
			t.Errorf("%s: Worst(%d, %d) = %d, error %d, want %d", c.name, c.a, c.b, got, e, c.want)
		}
	}
}

// slowFactor tries all fadings, one condition after the other.
func slowFactor(x api.Spectrum, a, b, channel, t int) int {
	factor := 1000
	for _, f := range x.Fades {
		if f.From != -1 && f.From != a {
			continue
		}
		if f.To != -1 && f.To != b {
			continue
		}
		if f.Channel != -1 && f.Channel != channel {
			continue
		}
		if f.First > t || t >= f.Until {
			continue
		}
		factor = min(factor, f.Factor)
	}
	return factor
}

// switches returns the times at which a fading of a spectrum begins or ends, and the ends of time.
func switches(x api.Spectrum) []int {
	times := []int{0, mostTime}
	for _, f := range x.Fades {
		times = append(times, f.First, f.Until)
	}
	return times
}

func TestSignalsOfSomeSpectra(t *testing.T) {
	r := rand.New(rand.NewSource(3))
	site := row(api.Wall{A: api.Point{X: 50}, B: api.Point{X: 50, Y: 60}, Factor: 300})
	faded := 0
	for range 300 {
		x := someSpectrum(r)
		more := copied(x)
		more.Fades = append(more.Fades, someFade(r))
		for n := range 9 {
			a, b := n/3, n%3
			sent, _ := geometry.Between(site, a, b)
			least := sent
			for _, time := range switches(x) {
				for channel := range api.Channels {
					want := slowFactor(x, a, b, channel, time)
					if got, e := spectrum.Factor(x, a, b, channel, time); got != want || e != api.OK {
						t.Fatalf("%v: Factor(%d, %d, %d, %d) = %d, error %d, want %d", x, a, b, channel, time, got, e, want)
					}
					got, e := spectrum.Signal(site, x, a, b, channel, time)
					if got != sent*want/1000 || e != api.OK {
						t.Fatalf("%v: Signal(%d, %d, %d, %d) = %d, error %d, want %d of %d", x, a, b, channel, time, got, e, want, sent)
					}
					if less, _ := spectrum.Signal(site, more, a, b, channel, time); less > got {
						t.Fatalf("%v: Signal(%d, %d, %d, %d) = %d, and %d with a further fading", more, a, b, channel, time, got, less)
					}
					least = min(least, got)
				}
			}
			if got, e := spectrum.Worst(site, x, a, b); got != least || e != api.OK {
				t.Fatalf("%v: Worst(%d, %d) = %d, error %d, want %d", x, a, b, got, e, least)
			}
			if least < sent {
				faded++
			}
		}
	}
	if faded < 100 {
		t.Errorf("%d signals were faded", faded)
	}
}
