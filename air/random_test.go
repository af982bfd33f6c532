package air_test

import (
	"math/rand"
	"slices"
	"testing"

	"hopmesh/air"
	"hopmesh/api"
	"hopmesh/geometry"
)

// situation is what some emissions meet on a site.
type situation struct {
	s api.Site
	x api.Spectrum
	l []api.Emission
}

// someSituation returns a small situation, in which emissions often overlap.
func someSituation(r *rand.Rand) situation {
	c := situation{s: api.Site{Exponent: 2, Noise: 1 + r.Intn(20), Threshold: 1000 + r.Intn(2000)}}
	for range 2 + r.Intn(4) {
		c.s.Nodes = append(c.s.Nodes, api.Point{X: r.Intn(60), Y: r.Intn(60)})
		c.s.Powers = append(c.s.Powers, r.Intn(3000))
	}
	c.s.Walls = []api.Wall{{A: api.Point{X: 30}, B: api.Point{X: 30, Y: 40}, Factor: r.Intn(1001)}}
	for range r.Intn(3) {
		from := r.Intn(40)
		source := api.Source{At: api.Point{X: r.Intn(60)}, Power: r.Intn(100), Channels: []int{r.Intn(2)}, Period: 40, From: from, To: from + r.Intn(41-from)}
		c.x.Sources = append(c.x.Sources, source)
	}
	for range r.Intn(4) {
		first := r.Intn(80)
		fade := api.Fade{From: r.Intn(3) - 1, To: r.Intn(3) - 1, Channel: r.Intn(3) - 1, First: first, Until: first + r.Intn(40), Factor: r.Intn(1001)}
		c.x.Fades = append(c.x.Fades, fade)
	}
	for range 1 + r.Intn(8) {
		from := r.Intn(70)
		e := sendsOn(r.Intn(2), r.Intn(len(c.s.Nodes)), from, from+1+r.Intn(30))
		if air.Check(c.s, c.x, append(slices.Clone(c.l), e)) == api.OK {
			c.l = append(c.l, e)
		}
	}
	return c
}

// slowSignal computes the signal of a sender at a node by the definitions.
func (c situation) slowSignal(e api.Emission, node int) int {
	factor := 1000
	for _, f := range c.x.Fades {
		if (f.From == -1 || f.From == e.Node) && (f.To == -1 || f.To == node) && (f.Channel == -1 || f.Channel == e.Channel) && f.First <= e.From && e.From < f.Until {
			factor = min(factor, f.Factor)
		}
	}
	sent, _ := geometry.Between(c.s, e.Node, node)
	return sent * factor / 1000
}

// slowExternal computes the external power at a node, time by time.
func (c situation) slowExternal(e api.Emission, node int) int {
	sum := 0
	for _, source := range c.x.Sources {
		for time := e.From; time < e.To; time++ {
			if phase := time % source.Period; source.Channels[0] == e.Channel && source.From <= phase && phase < source.To {
				p, _ := geometry.At(c.s, source.At, source.Power, c.s.Nodes[node])
				sum += p
				break
			}
		}
	}
	return sum
}

// slowMeet says, time by time, whether two emissions overlap.
func slowMeet(a, b api.Emission) bool {
	for time := a.From; time < a.To; time++ {
		if b.From <= time && time < b.To {
			return true
		}
	}
	return false
}

// slowly computes the interference, and whether the emission is received by a node, with all others and without them.
func (c situation) slowly(i, node int) (interference int, received, alone bool, count []int) {
	e := c.l[i]
	external := c.slowExternal(e, node)
	interference = external
	deaf := e.Node == node
	for k, other := range c.l {
		if k == i || !slowMeet(e, other) {
			continue
		}
		switch {
		case other.Node == node:
			deaf = true
		case other.Channel == e.Channel:
			interference += c.slowSignal(other, node)
			count = append(count, k)
		}
	}
	signal := 1000 * c.slowSignal(e, node)
	received = !deaf && signal >= c.s.Threshold*(c.s.Noise+interference)
	alone = !deaf && signal >= c.s.Threshold*(c.s.Noise+external)
	return interference, received, alone, count
}

func TestSomeSituations(t *testing.T) {
	r := rand.New(rand.NewSource(1))
	receptions, disturbances := 0, 0
	for range 3000 {
		c := someSituation(r)
		for i := range c.l {
			var receivers []int
			for node := range c.s.Nodes {
				sum, received, alone, count := c.slowly(i, node)
				if got, e := air.Interference(c.s, c.x, c.l, i, node); got != sum || e != api.OK {
					t.Fatalf("%+v: the interference with %d at %d is %d, error %d, want %d", c, i, node, got, e, sum)
				}
				if got, e := air.Received(c.s, c.x, c.l, i, node); got != received || e != api.OK {
					t.Fatalf("%+v: %d is received by %d: %t, error %d, want %t", c, i, node, got, e, received)
				}
				if !alone || received {
					count = nil
				}
				if got, e := air.Disturbers(c.s, c.x, c.l, i, node); !slices.Equal(got, count) || e != api.OK {
					t.Fatalf("%+v: the disturbers of %d at %d are %v, error %d, want %v", c, i, node, got, e, count)
				}
				if received {
					receivers = append(receivers, node)
				}
				disturbances += min(1, len(count))
			}
			if got, e := air.Receivers(c.s, c.x, c.l, i); !slices.Equal(got, receivers) || e != api.OK {
				t.Fatalf("%+v: %v receive %d, error %d, want %v", c, got, i, e, receivers)
			}
			receptions += len(receivers)
		}
	}
	if receptions < 1000 || disturbances < 1000 {
		t.Errorf("%d receptions and %d disturbances", receptions, disturbances)
	}
}

// slowHear tries all emissions, time by time.
func (c situation) slowHear(y api.Listening) (int, bool) {
	for time := y.From; time <= y.To; time++ {
		for i, e := range c.l {
			if e.Channel != y.Channel || e.From != time {
				continue
			}
			if _, received, _, _ := c.slowly(i, y.Node); received {
				return i, true
			}
		}
	}
	return 0, false
}

func TestHearInSomeSituations(t *testing.T) {
	r := rand.New(rand.NewSource(2))
	heardOnes := 0
	for range 3000 {
		c := someSituation(r)
		for range 10 {
			from := r.Intn(80)
			y := api.Listening{Node: r.Intn(len(c.s.Nodes)), Channel: r.Intn(2), From: from, To: from + r.Intn(60)}
			want, wanted := c.slowHear(y)
			got, found, e := air.Hear(c.s, c.x, c.l, y)
			if got != want || found != wanted || e != api.OK {
				t.Fatalf("%+v: %+v hears %d, %t, error %d, want %d, %t", c, y, got, found, e, want, wanted)
			}
			if !found {
				continue
			}
			heardOnes++
			longer := y
			longer.From, longer.To = max(0, y.From-r.Intn(30)), y.To+r.Intn(30)
			other, more, _ := air.Hear(c.s, c.x, c.l, longer)
			if !more || other != got && c.l[other].From >= y.From {
				t.Fatalf("%+v: %+v hears %d, %+v hears %d, %t", c, y, got, longer, other, more)
			}
		}
	}
	if heardOnes < 1000 {
		t.Errorf("%d were heard", heardOnes)
	}
}

// received says which nodes receive which emission.
func (c situation) received(t *testing.T) [][]bool {
	table := make([][]bool, len(c.l))
	for i := range c.l {
		for node := range c.s.Nodes {
			is, e := air.Received(c.s, c.x, c.l, i, node)
			if e != api.OK {
				t.Fatalf("%+v: error %d", c, e)
			}
			table[i] = append(table[i], is)
		}
	}
	return table
}

func TestOneEmissionLess(t *testing.T) {
	r := rand.New(rand.NewSource(3))
	gained := 0
	for range 2000 {
		c := someSituation(r)
		out := r.Intn(len(c.l))
		less := c
		less.l = slices.Delete(slices.Clone(c.l), out, out+1)
		before, after := slices.Delete(c.received(t), out, out+1), less.received(t)
		for i := range before {
			for node := range before[i] {
				if before[i][node] && !after[i][node] {
					t.Fatalf("%+v: without %d, %d is no longer received by %d", c, out, i, node)
				}
				if before[i][node] == after[i][node] {
					continue
				}
				gained++
				if less.l[i].Channel != c.l[out].Channel && node != c.l[out].Node {
					t.Fatalf("%+v: %d on another channel than %d matters for %d", c, out, i, node)
				}
			}
		}
	}
	if gained < 300 {
		t.Errorf("%d receptions were gained", gained)
	}
}

func TestOneOfSeveralIsReceived(t *testing.T) {
	r := rand.New(rand.NewSource(4))
	for range 2000 {
		c := someSituation(r)
		table := c.received(t)
		for i := range c.l {
			for k := range i {
				if c.l[i].Channel != c.l[k].Channel || !air.Overlap(c.l[i], c.l[k]) {
					continue
				}
				for node := range c.s.Nodes {
					if table[i][node] && table[k][node] {
						t.Fatalf("%+v: %d receives %d and %d", c, node, k, i)
					}
				}
			}
		}
	}
}
