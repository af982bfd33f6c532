package spectrum_test

import (
	"math"
	"math/rand"
	"reflect"
	"slices"
	"testing"

	"hopmesh/api"
	"hopmesh/geometry"
	"hopmesh/spectrum"
)

const (
	mostPower  = api.MaxPower
	mostTime   = api.MaxTime
	mostPeriod = 1000000000
)

// sender returns an external transmitter that is on from a time to another one in each period, on some channels.
func sender(period, from, to int, channels ...int) api.Source {
	return api.Source{At: api.Point{X: 60}, Power: 90000, Channels: channels, Period: period, From: from, To: to}
}

// sources returns a spectrum without fadings.
func sources(l ...api.Source) api.Spectrum { return api.Spectrum{Sources: l} }

// all returns a fading of all transmissions.
func all(first, until, factor int) api.Fade {
	return api.Fade{From: -1, To: -1, Channel: -1, First: first, Until: until, Factor: factor}
}

// fades returns a spectrum without external transmitters.
func fades(l ...api.Fade) api.Spectrum { return api.Spectrum{Fades: l} }

// row returns a site of three nodes in a row, with 90000 units each.
func row(walls ...api.Wall) api.Site {
	return api.Site{
		Nodes: []api.Point{{X: 0}, {X: 30}, {X: 90}}, Powers: []int{90000, 90000, 90000}, Walls: walls,
		Exponent: 2, Noise: 10, Threshold: 2000,
	}
}

// copied returns a copy of a spectrum that shares no memory with it.
func copied(x api.Spectrum) api.Spectrum {
	x.Sources, x.Fades = slices.Clone(x.Sources), slices.Clone(x.Fades)
	for i := range x.Sources {
		x.Sources[i].Channels = slices.Clone(x.Sources[i].Channels)
	}
	return x
}

// source returns an external transmitter with a change.
func source(change func(s *api.Source)) api.Source {
	s := sender(100, 20, 30, 3, 7)
	change(&s)
	return s
}

// goodSources returns valid external transmitters.
func goodSources() map[string]api.Source {
	list := map[string]api.Source{}
	for name, change := range map[string]func(s *api.Source){
		"plain":                    func(s *api.Source) {},
		"the least coordinates":    func(s *api.Source) { s.At = api.Point{} },
		"the greatest coordinates": func(s *api.Source) { s.At = api.Point{X: 10000, Y: 10000} },
		"no power":                 func(s *api.Source) { s.Power = 0 },
		"the greatest power":       func(s *api.Source) { s.Power = mostPower },
		"nil channels":             func(s *api.Source) { s.Channels = nil },
		"no channels":              func(s *api.Source) { s.Channels = []int{} },
		"the first channel":        func(s *api.Source) { s.Channels = []int{0} },
		"the last channel":         func(s *api.Source) { s.Channels = []int{15} },
		"all channels":             func(s *api.Source) { s.Channels = []int{0, 1, 2, 3, 4, 5, 6, 7, 8, 9, 10, 11, 12, 13, 14, 15} },
		"the least period":         func(s *api.Source) { s.Period, s.From, s.To = 1, 0, 1 },
		"the greatest period":      func(s *api.Source) { s.Period = mostPeriod },
		"always on":                func(s *api.Source) { s.From, s.To = 0, 100 },
		"never on":                 func(s *api.Source) { s.From, s.To = 0, 0 },
		"never on, in the middle":  func(s *api.Source) { s.From, s.To = 30, 30 },
		"never on, at the end":     func(s *api.Source) { s.From, s.To = 100, 100 },
	} {
		list[name] = source(change)
	}
	return list
}

// badSources returns external transmitters that are not valid, each with one fault.
func badSources() map[string]api.Source {
	list := map[string]api.Source{"the zero transmitter": {}}
	for name, change := range map[string]func(s *api.Source){
		"x below 0":              func(s *api.Source) { s.At.X = -1 },
		"y below 0":              func(s *api.Source) { s.At.Y = -1 },
		"x too great":            func(s *api.Source) { s.At.X = 10001 },
		"y too great":            func(s *api.Source) { s.At.Y = 10001 },
		"a power below 0":        func(s *api.Source) { s.Power = -1 },
		"a power too great":      func(s *api.Source) { s.Power = mostPower + 1 },
		"a channel below 0":      func(s *api.Source) { s.Channels = []int{-1} },
		"a channel below 0, two": func(s *api.Source) { s.Channels = []int{-1, 3} },
		"a channel too great":    func(s *api.Source) { s.Channels = []int{3, 16} },
		"channels not in order":  func(s *api.Source) { s.Channels = []int{3, 7, 5} },
		"channels falling":       func(s *api.Source) { s.Channels = []int{7, 3} },
		"a channel twice":        func(s *api.Source) { s.Channels = []int{3, 3} },
		"the channel 0 twice":    func(s *api.Source) { s.Channels = []int{0, 0} },
		"too many channels":      func(s *api.Source) { s.Channels = make([]int, 1000) },
		"no period":              func(s *api.Source) { s.Period, s.From, s.To = 0, 0, 0 },
		"a period below 0":       func(s *api.Source) { s.Period, s.From, s.To = -1, 0, 0 },
		"a period too great":     func(s *api.Source) { s.Period = mostPeriod + 1 },
		"from below 0":           func(s *api.Source) { s.From = -1 },
		"from behind to":         func(s *api.Source) { s.From, s.To = 31, 30 },
		"to behind the period":   func(s *api.Source) { s.To = 101 },
		"both behind the period": func(s *api.Source) { s.From, s.To = 101, 101 },
		"the least numbers":      func(s *api.Source) { s.Period, s.From, s.To = math.MinInt, math.MinInt, math.MinInt },
		"the greatest numbers":   func(s *api.Source) { s.Period, s.From, s.To = math.MaxInt, math.MaxInt, math.MaxInt },
	} {
		list[name] = source(change)
	}
	return list
}

// fade returns a fading with a change.
func fade(change func(f *api.Fade)) api.Fade {
	f := api.Fade{From: 1, To: 2, Channel: 3, First: 10, Until: 20, Factor: 200}
	change(&f)
	return f
}

// badFades returns fadings that are not valid, each with one fault.
func badFades() map[string]api.Fade {
	list := map[string]api.Fade{}
	for name, change := range map[string]func(f *api.Fade){
		"from below -1":         func(f *api.Fade) { f.From = -2 },
		"from too great":        func(f *api.Fade) { f.From = 32 },
		"to below -1":           func(f *api.Fade) { f.To = -2 },
		"to too great":          func(f *api.Fade) { f.To = 32 },
		"the channel below -1":  func(f *api.Fade) { f.Channel = -2 },
		"the channel too great": func(f *api.Fade) { f.Channel = 16 },
		"first below 0":         func(f *api.Fade) { f.First = -1 },
		"first behind until":    func(f *api.Fade) { f.First = 21 },
		"until below 0":         func(f *api.Fade) { f.First, f.Until = -2, -1 },
		"until too great":       func(f *api.Fade) { f.Until = mostTime + 1 },
		"both too great":        func(f *api.Fade) { f.First, f.Until = mostTime+1, mostTime+1 },
		"a factor below 0":      func(f *api.Fade) { f.Factor = -1 },
		"a factor too great":    func(f *api.Fade) { f.Factor = 1001 },
		"the least numbers":     func(f *api.Fade) { f.From, f.First, f.Factor = math.MinInt, math.MinInt, math.MinInt },
		"the greatest numbers":  func(f *api.Fade) { f.To, f.Until, f.Factor = math.MaxInt, math.MaxInt, math.MaxInt },
	} {
		list[name] = fade(change)
	}
	return list
}

// manySources returns a spectrum with n external transmitters, and manyFades one with n fadings.
func manySources(n int) api.Spectrum {
	return sources(slices.Repeat([]api.Source{sender(100, 20, 30, 3, 7)}, n)...)
}

func manyFades(n int) api.Spectrum {
	return fades(slices.Repeat([]api.Fade{all(0, mostTime, 900)}, n)...)
}

// goodSpectra returns valid spectra.
func goodSpectra() map[string]api.Spectrum {
	list := map[string]api.Spectrum{
		"nothing": {}, "empty lists": {Sources: []api.Source{}, Fades: []api.Fade{}},
		"16 transmitters": manySources(16), "64 fadings": manyFades(64),
		"all that it can have": {Sources: manySources(16).Sources, Fades: manyFades(64).Fades},
	}
	for name, s := range goodSources() {
		list["transmitter, "+name] = sources(sender(100, 20, 30, 3, 7), s)
	}
	for name, change := range map[string]func(f *api.Fade){
		"plain":                 func(f *api.Fade) {},
		"of all nodes":          func(f *api.Fade) { f.From = -1 },
		"of the first node":     func(f *api.Fade) { f.From = 0 },
		"of the last node":      func(f *api.Fade) { f.From = 31 },
		"for all nodes":         func(f *api.Fade) { f.To = -1 },
		"for the first node":    func(f *api.Fade) { f.To = 0 },
		"for the last node":     func(f *api.Fade) { f.To = 31 },
		"for the node itself":   func(f *api.Fade) { f.To = f.From },
		"on all channels":       func(f *api.Fade) { f.Channel = -1 },
		"on the first channel":  func(f *api.Fade) { f.Channel = 0 },
		"on the last channel":   func(f *api.Fade) { f.Channel = 15 },
		"at all times":          func(f *api.Fade) { f.First, f.Until = 0, mostTime },
		"at no time":            func(f *api.Fade) { f.First, f.Until = 0, 0 },
		"at no time, at last":   func(f *api.Fade) { f.First, f.Until = mostTime, mostTime },
		"of all of the power":   func(f *api.Fade) { f.Factor = 0 },
		"of none of the power":  func(f *api.Fade) { f.Factor = 1000 },
		"of all that there are": func(f *api.Fade) { *f = all(0, mostTime, 500) },
	} {
		list["fading, "+name] = fades(all(0, 50, 500), fade(change))
	}
	return list
}

// badSpectra returns spectra that are not valid, each with one fault.
func badSpectra() map[string]api.Spectrum {
	list := map[string]api.Spectrum{"17 transmitters": manySources(17), "65 fadings": manyFades(65)}
	for name, s := range badSources() {
		list["transmitter, "+name] = api.Spectrum{Sources: []api.Source{sender(100, 20, 30, 3, 7), s}, Fades: manyFades(1).Fades}
	}
	for name, f := range badFades() {
		list["fading, "+name] = api.Spectrum{Sources: manySources(1).Sources, Fades: []api.Fade{all(0, 50, 500), f}}
	}
	return list
}

func TestCheck(t *testing.T) {
	for name, x := range goodSpectra() {
		if e := spectrum.Check(x); e != api.OK {
			t.Errorf("%s: error %d", name, e)
		}
	}
	for name, x := range badSpectra() {
		if e := spectrum.Check(x); e != api.ErrArg {
			t.Errorf("%s: error %d", name, e)
		}
	}
}

func TestNotValid(t *testing.T) {
	check := func(name string, s api.Site, x api.Spectrum) {
		// the nodes, channels and times are wrong as well in every second call: the spectrum and the site come first
		for _, n := range []int{0, -1} {
			if p, e := spectrum.Signal(s, x, n, n, n, n); p != 0 || e != api.ErrArg {
				t.Errorf("%s: Signal: %d, error %d", name, p, e)
			}
			if p, e := spectrum.External(s, x, n, n, n, n); p != 0 || e != api.ErrArg {
				t.Errorf("%s: External: %d, error %d", name, p, e)
			}
			if p, e := spectrum.Worst(s, x, n, n); p != 0 || e != api.ErrArg {
				t.Errorf("%s: Worst: %d, error %d", name, p, e)
			}
		}
	}
	for name, x := range badSpectra() {
		check(name, row(), x)
		check(name+", no site", api.Site{}, x)
		for _, n := range []int{0, -1} {
			if f, e := spectrum.Factor(x, n, n, n, n); f != 0 || e != api.ErrArg {
				t.Errorf("%s: Factor: %d, error %d", name, f, e)
			}
		}
		if l := spectrum.Clear(x, 0, 0); len(l) != 0 {
			t.Errorf("%s: Clear: %v", name, l)
		}
	}
	check("no site", api.Site{}, api.Spectrum{})
	flawed := row()
	flawed.Noise = 0
	check("no noise", flawed, manySources(1))
	for name, s := range badSources() {
		if spectrum.On(s, 0, mostTime) || spectrum.Duty(s) != 0 {
			t.Errorf("%s: on, or on for %d thousandths", name, spectrum.Duty(s))
		}
	}
}

func TestOn(t *testing.T) {
	plain := sender(100, 20, 30, 3)
	for _, c := range []struct {
		name     string
		s        api.Source
		from, to int
		want     bool
	}{
		{"example, over the end of a period", plain, 95, 121, true}, {"example, between", plain, 30, 120, false},
		{"just not on yet", plain, 95, 120, false}, {"just on", plain, 20, 21, true}, {"on at last", plain, 29, 30, true}, {"just before", plain, 19, 20, false}, {"just behind", plain, 30, 31, false},
		{"up to the switch", plain, 0, 20, false}, {"over the switch", plain, 0, 21, true}, {"from the last time", plain, 29, 100, true}, {"from the switch", plain, 30, 100, false}, {"from the switch to the next one", plain, 130, 220, false}, {"one more", plain, 130, 221, true}, {"one earlier", plain, 129, 220, true},
		{"within", plain, 22, 25, true}, {"around", plain, 10, 40, true}, {"all of it", plain, 20, 30, true},
		{"empty", plain, 20, 20, false}, {"empty", plain, 25, 25, false}, {"empty", plain, 0, 0, false}, {"empty", plain, mostTime, mostTime, false},
		{"a period", plain, 30, 130, true}, {"a period", plain, 0, 100, true}, {"longer than a period", plain, 77, 300, true}, {"all times", plain, 0, mostTime, true},
		// MaxTime mod 100 is 76
		{"at last, off", plain, mostTime - 46, mostTime, false}, {"at last, on", plain, mostTime - 47, mostTime, true}, {"at last, before", plain, mostTime - 146, mostTime - 56, false}, {"at last, one more", plain, mostTime - 146, mostTime - 55, true},
		{"from behind to", plain, 30, 20, false}, {"from behind to", plain, 25, 24, false}, {"from behind to", plain, mostTime, 0, false},
		{"negative", plain, -1, 25, false}, {"negative", plain, -80, -70, false}, {"negative", plain, -1, mostTime, false}, {"too late", plain, 0, mostTime + 1, false}, {"too late", plain, mostTime + 1, mostTime + 1000, false},
		{"the least and greatest numbers", plain, math.MinInt, math.MaxInt, false}, {"the greatest numbers", plain, math.MaxInt - 1000, math.MaxInt, false},
		{"never on", sender(100, 20, 20, 3), 0, mostTime, false}, {"never on", sender(100, 0, 0, 3), 0, 1, false}, {"never on", sender(100, 100, 100, 3), 99, 101, false},
		{"always on", sender(100, 0, 100, 3), 99, 100, true}, {"always on", sender(100, 0, 100, 3), 100, 101, true}, {"always on", sender(100, 0, 100, 3), 0, 1, true}, {"always on, empty", sender(100, 0, 100, 3), 100, 100, false}, {"always on", sender(1, 0, 1, 3), mostTime - 1, mostTime, true},
		{"up to the end", sender(100, 90, 100, 3), 99, 100, true}, {"up to the end", sender(100, 90, 100, 3), 100, 190, false}, {"up to the end", sender(100, 90, 100, 3), 100, 191, true}, {"up to the end", sender(100, 90, 100, 3), 0, 90, false},
		{"from the beginning", sender(100, 0, 10, 3), 10, 100, false}, {"from the beginning", sender(100, 0, 10, 3), 10, 101, true}, {"from the beginning", sender(100, 0, 10, 3), 0, 1, true},
		{"the greatest period", sender(mostPeriod, mostPeriod-1, mostPeriod, 3), mostPeriod, 2*mostPeriod - 1, false}, {"the greatest period", sender(mostPeriod, mostPeriod-1, mostPeriod, 3), mostPeriod, 2 * mostPeriod, true},
		{"no channels", sender(100, 20, 30), 20, 21, true}, {"no power", source(func(s *api.Source) { s.Power = 0 }), 20, 21, true},
	} {
		if got := spectrum.On(c.s, c.from, c.to); got != c.want {
			t.Errorf("%s: %d to %d of %d is on from %d to %d: %t", c.name, c.s.From, c.s.To, c.s.Period, c.from, c.to, got)
		}
	}
}

// on says time by time whether an external transmitter is on.
func on(s api.Source, from, to int) bool {
	for t := from; t < to; t++ {
		if s.From <= t%s.Period && t%s.Period < s.To {
			return true
		}
	}
	return false
}

func TestOnAtAllSmallTimes(t *testing.T) {
	for period := 1; period <= 6; period++ {
		for from := range period + 1 {
			for to := from; to <= period; to++ {
				s := sender(period, from, to, 3)
				for first := range 15 {
					for until := first; until < 15+period; until++ {
						if got := spectrum.On(s, first, until); got != on(s, first, until) {
							t.Errorf("%d to %d of %d is on from %d to %d: %t", from, to, period, first, until, got)
						}
					}
				}
			}
		}
	}
}

func TestOnInOneOfTwoParts(t *testing.T) {
	r := rand.New(rand.NewSource(1))
	count := [2]int{}
	for range 20000 {
		period := 1 + r.Intn(mostPeriod)>>r.Intn(30)
		from := r.Intn(period + 1)
		s := sender(period, from, from+r.Intn(period-from+1)>>r.Intn(8), 3)
		first := r.Intn(mostTime + 1)
		until := min(mostTime, first+r.Intn(2*period))
		middle := first + r.Intn(until-first+1)
		got := spectrum.On(s, first, until)
		if got != (spectrum.On(s, first, middle) || spectrum.On(s, middle, until)) {
			t.Fatalf("%d to %d of %d: from %d to %d %t, but not in the parts up to and from %d", s.From, s.To, s.Period, first, until, got, middle)
		}
		if got {
			count[1]++
		} else {
			count[0]++
		}
	}
	if count[0] < 1000 || count[1] < 1000 {
		t.Errorf("off in %d intervals, on in %d", count[0], count[1])
	}
}

func TestDuty(t *testing.T) {
	for _, c := range []struct{ period, from, to, want int }{
		{100, 20, 30, 100}, {100, 0, 0, 0}, {100, 20, 20, 0}, {100, 100, 100, 0}, {100, 0, 100, 1000}, {1, 0, 1, 1000}, {1, 0, 0, 0}, {1, 1, 1, 0},
		{3, 0, 1, 333}, {3, 1, 3, 666}, {3, 0, 3, 1000}, {7, 0, 6, 857}, {1001, 0, 1000, 999}, {1001, 0, 1, 0}, {1000, 7, 8, 1}, {999, 7, 8, 1},
		{mostPeriod, 0, mostPeriod, 1000}, {mostPeriod, 0, mostPeriod - 1, 999}, {mostPeriod, 1, mostPeriod, 999}, {mostPeriod, 0, 1000000, 1}, {mostPeriod, 0, 999999, 0},
	} {
		if got := spectrum.Duty(sender(c.period, c.from, c.to, 3)); got != c.want {
			t.Errorf("Duty of %d to %d of %d = %d, want %d", c.from, c.to, c.period, got, c.want)
		}
	}
}

func TestExternal(t *testing.T) {
	// the transmitters stand 30 decimetres from the nodes 1 and 2, and 60 from the node 0
	near, far := sender(100, 20, 30, 3, 7), sender(100, 25, 35, 7, 8)
	far.Power = 36000
	there := near
	there.At = api.Point{X: 30}
	wall := api.Wall{A: api.Point{X: 45}, B: api.Point{X: 45, Y: 10}, Factor: 500}
	for _, c := range []struct {
		name                    string
		s                       api.Site
		x                       api.Spectrum
		node, channel, from, to int
		want                    int
	}{
		{"none", row(), api.Spectrum{}, 1, 3, 0, mostTime, 0},
		{"one", row(), sources(near), 1, 3, 20, 30, 10000}, {"one", row(), sources(near), 1, 7, 20, 30, 10000}, {"one", row(), sources(near), 0, 7, 0, 100, 2500}, {"one", row(), sources(near), 2, 7, 0, 100, 10000},
		{"another channel", row(), sources(near), 1, 4, 20, 30, 0}, {"another channel", row(), sources(near), 1, 0, 0, mostTime, 0}, {"another channel", row(), sources(near), 1, 15, 0, mostTime, 0},
		{"off", row(), sources(near), 1, 3, 30, 120, 0}, {"just on", row(), sources(near), 1, 3, 30, 121, 10000}, {"on several times", row(), sources(near), 1, 3, 0, 1000, 10000}, {"empty", row(), sources(near), 1, 3, 25, 25, 0},
		{"all times", row(), sources(near), 1, 3, 0, mostTime, 10000}, {"no time", row(), sources(near), 1, 3, mostTime, mostTime, 0},
		{"two, one at a time", row(), sources(near, far), 1, 7, 20, 25, 10000}, {"two, the other one", row(), sources(near, far), 1, 7, 30, 35, 4000}, {"two at once", row(), sources(near, far), 1, 7, 25, 30, 14000}, {"two one after the other", row(), sources(near, far), 1, 7, 24, 26, 14000}, {"two, none", row(), sources(near, far), 1, 7, 35, 120, 0},
		{"two, one on the channel", row(), sources(near, far), 1, 8, 0, 100, 4000}, {"two, the other one on it", row(), sources(near, far), 1, 3, 0, 100, 10000}, {"two, none on it", row(), sources(near, far), 1, 9, 0, 100, 0},
		{"a wall", row(wall), sources(near, far), 1, 7, 0, 100, 7000}, {"no wall there", row(wall), sources(near, far), 2, 7, 0, 100, 14000},
		{"at the node", row(), sources(there), 1, 3, 0, 100, 90000}, {"no power", row(), sources(source(func(s *api.Source) { s.Power = 0 })), 1, 3, 0, 100, 0},
		{"16 at once", row(), manySources(16), 1, 3, 0, 100, 160000},
	} {
		if got, e := spectrum.External(c.s, c.x, c.node, c.channel, c.from, c.to); got != c.want || e != api.OK {
			t.Errorf("%s: External(%d, %d, %d, %d) = %d, error %d, want %d", c.name, c.node, c.channel, c.from, c.to, got, e, c.want)
		}
	}
	strong := manySources(16)
	for i := range strong.Sources {
		strong.Sources[i].Power, strong.Sources[i].At = mostPower, api.Point{X: 30}
	}
	if got, e := spectrum.External(row(), strong, 1, 3, 0, 100); got != 16*mostPower || e != api.OK {
		t.Errorf("the greatest external power is %d, error %d", got, e)
	}
	// fadings do not matter
	faded := api.Spectrum{Sources: []api.Source{near}, Fades: manyFades(64).Fades}
	if got, e := spectrum.External(row(), faded, 1, 3, 0, 100); got != 10000 || e != api.OK {
		t.Errorf("with fadings the external power is %d, error %d", got, e)
	}
}

func TestExternalErrors(t *testing.T) {
	for _, c := range []struct {
		node, channel, from, to int
		e                       api.Errno
	}{
		{-1, 3, 0, 1, api.ErrNotFound}, {3, 3, 0, 1, api.ErrNotFound}, {math.MinInt, 3, 0, 1, api.ErrNotFound}, {math.MaxInt, 3, 0, 1, api.ErrNotFound},
		{0, -1, 0, 1, api.ErrRange}, {0, 16, 0, 1, api.ErrRange}, {0, math.MinInt, 0, 1, api.ErrRange}, {0, math.MaxInt, 0, 1, api.ErrRange},
		{0, 3, -1, 1, api.ErrRange}, {0, 3, -1, -1, api.ErrRange}, {0, 3, 2, 1, api.ErrRange}, {0, 3, 0, mostTime + 1, api.ErrRange}, {0, 3, mostTime + 1, mostTime + 1, api.ErrRange}, {0, 3, math.MinInt, math.MaxInt, api.ErrRange}, {0, 3, math.MaxInt, math.MinInt, api.ErrRange},
		{3, 16, 2, 1, api.ErrNotFound}, {-1, -1, -1, -1, api.ErrNotFound}, {2, 0, 0, 0, api.OK}, {0, 15, mostTime, mostTime, api.OK},
	} {
		if got, e := spectrum.External(row(), manySources(1), c.node, c.channel, c.from, c.to); got != 0 || e != c.e {
			t.Errorf("External(%d, %d, %d, %d) = %d, error %d, want error %d", c.node, c.channel, c.from, c.to, got, e, c.e)
		}
	}
}

func TestClear(t *testing.T) {
	every := []int{0, 1, 2, 3, 4, 5, 6, 7, 8, 9, 10, 11, 12, 13, 14, 15}
	without := func(l ...int) []int {
		return slices.DeleteFunc(slices.Clone(every), func(c int) bool { return slices.Contains(l, c) })
	}
	near, far := sender(100, 20, 30, 3, 7), sender(100, 25, 35, 7, 8)
	for _, c := range []struct {
		name     string
		x        api.Spectrum
		from, to int
		want     []int
	}{
		{"none", api.Spectrum{}, 0, mostTime, every}, {"no channels", sources(sender(100, 0, 100)), 0, mostTime, every},
		{"one", sources(near), 20, 21, without(3, 7)}, {"one, at last", sources(near), 29, 30, without(3, 7)}, {"one, over the end of a period", sources(near), 95, 121, without(3, 7)}, {"one, off", sources(near), 30, 120, every}, {"one, off", sources(near), 0, 20, every},
		{"empty", sources(near), 25, 25, every}, {"empty", sources(near), 0, 0, every}, {"empty", sources(near), mostTime, mostTime, every}, {"all times", sources(near), 0, mostTime, without(3, 7)}, {"longer than a period", sources(near), 77, 300, without(3, 7)},
		{"two", sources(near, far), 24, 26, without(3, 7, 8)}, {"two, one on", sources(near, far), 30, 35, without(7, 8)}, {"two, the other one on", sources(near, far), 20, 25, without(3, 7)}, {"two, none on", sources(near, far), 35, 120, every},
		{"up to the end", sources(sender(100, 90, 100, 0, 15)), 99, 100, without(0, 15)}, {"up to the end", sources(sender(100, 90, 100, 0, 15)), 100, 190, every},
		{"always on", sources(sender(100, 0, 100, every...)), 7, 8, nil}, {"always on, empty", sources(sender(100, 0, 100, every...)), 7, 7, every}, {"never on", sources(sender(100, 20, 20, every...)), 0, mostTime, every},
		{"no power", sources(source(func(s *api.Source) { s.Power = 0 })), 0, 100, without(3, 7)},
		{"from behind to", sources(near), 30, 20, nil}, {"negative", sources(near), -1, 10, nil}, {"negative", sources(near), -10, -1, nil}, {"too late", sources(near), 0, mostTime + 1, nil}, {"too late", api.Spectrum{}, mostTime + 1, mostTime + 1, nil},
		{"the least and greatest numbers", api.Spectrum{}, math.MinInt, math.MaxInt, nil}, {"the greatest and least numbers", api.Spectrum{}, math.MaxInt, math.MinInt, nil},
	} {
		if got := spectrum.Clear(c.x, c.from, c.to); !slices.Equal(got, c.want) {
			t.Errorf("%s: Clear(%d, %d) = %v, want %v", c.name, c.from, c.to, got, c.want)
		}
	}
}

// someSpectrum returns a spectrum whose transmitters and fadings are on and apply within some hundreds of microseconds.
func someSpectrum(r *rand.Rand) api.Spectrum {
	x := api.Spectrum{}
	for range r.Intn(5) {
		period := 1 + r.Intn(60)
		from := r.Intn(period + 1)
		s := api.Source{At: api.Point{X: r.Intn(100), Y: r.Intn(100)}, Power: r.Intn(100000), Period: period, From: from, To: from + r.Intn(period-from+1)}
		for c := range api.Channels {
			if r.Intn(3) == 0 {
				s.Channels = append(s.Channels, c)
			}
		}
		x.Sources = append(x.Sources, s)
	}
	for range r.Intn(8) {
		x.Fades = append(x.Fades, someFade(r))
	}
	return x
}

// someFade returns a fading, often one that has to do with few nodes and channels.
func someFade(r *rand.Rand) api.Fade {
	first := r.Intn(100)
	f := api.Fade{From: r.Intn(4) - 1, To: r.Intn(4) - 1, Channel: r.Intn(4) - 1, First: first, Until: first + r.Intn(20), Factor: r.Intn(1001)}
	if r.Intn(5) == 0 {
		f.First, f.Until = mostTime-r.Intn(3), mostTime
	}
	return f
}

func TestExternalAndClearOfSomeSpectra(t *testing.T) {
	r := rand.New(rand.NewSource(2))
	site := row(api.Wall{A: api.Point{X: 50}, B: api.Point{X: 50, Y: 60}, Factor: 300})
	disturbed := 0
	for range 2000 {
		x := someSpectrum(r)
		node, from := r.Intn(3), r.Intn(200)
		to := from + r.Intn(30)
		var clear []int
		for channel := range api.Channels {
			want, free := 0, true
			for _, s := range x.Sources {
				if slices.Contains(s.Channels, channel) && on(s, from, to) {
					p, _ := geometry.At(site, s.At, s.Power, site.Nodes[node])
					want += p
					free = false
				}
			}
			got, e := spectrum.External(site, x, node, channel, from, to)
			if got != want || e != api.OK {
				t.Fatalf("%v: External(%d, %d, %d, %d) = %d, error %d, want %d", x, node, channel, from, to, got, e, want)
			}
			if more, _ := spectrum.External(site, x, node, channel, max(0, from-r.Intn(9)), to+r.Intn(9)); more < got {
				t.Fatalf("%v: External(%d, %d, %d, %d) = %d, and %d in a longer interval", x, node, channel, from, to, got, more)
			}
			if free {
				clear = append(clear, channel)
			} else {
				disturbed++
			}
		}
		if got := spectrum.Clear(x, from, to); !slices.Equal(got, clear) {
			t.Fatalf("%v: Clear(%d, %d) = %v, want %v", x, from, to, got, clear)
		}
	}
	if disturbed < 1000 {
		t.Errorf("%d channels were disturbed", disturbed)
	}
}

func TestArgumentsAreKept(t *testing.T) {
	s := row(api.Wall{A: api.Point{X: 20}, B: api.Point{X: 20, Y: 10}, Factor: 500})
	x := api.Spectrum{Sources: []api.Source{sender(100, 25, 35, 7, 8), sender(100, 20, 30, 3, 7)}, Fades: []api.Fade{all(0, 50, 500), all(10, 20, 200)}}
	before := copied(x)
	spectrum.Check(x)
	spectrum.On(x.Sources[0], 0, 100)
	spectrum.Duty(x.Sources[0])
	spectrum.Factor(x, 0, 1, 7, 5)
	spectrum.Signal(s, x, 0, 1, 7, 5)
	spectrum.External(s, x, 0, 7, 0, 100)
	spectrum.Worst(s, x, 0, 1)
	first := spectrum.Clear(x, 0, 100)
	if len(first) == 0 {
		t.Fatal("no channel is clear")
	}
	want := slices.Clone(first)
	first[0] = 9
	if again := spectrum.Clear(x, 0, 100); !slices.Equal(again, want) {
		t.Errorf("the clear channels are %v afterwards, want %v", again, want)
	}
	if !reflect.DeepEqual(x, before) || !reflect.DeepEqual(s.Nodes, row().Nodes) || !slices.Equal(s.Powers, row().Powers) || s.Walls[0].Factor != 500 {
		t.Errorf("the spectrum is %v afterwards, the site %v", x, s)
	}
}
