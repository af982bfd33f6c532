package fragment_test

import (
	"math/rand"
	"slices"
	"strings"
	"testing"

	"hopmesh/api"
	"hopmesh/fragment"
)

// cut is a fragment, with the limit that was used.
type cut struct {
	fragment api.Fragment
	most     int
}

// one is a datagram that a plain receiver has: all fragments that it took, in their order.
type one struct {
	tag, last int
	got       []cut
	done      bool
}

// plain receives as the chapter says, step by step.
type plain struct {
	hold, time int
	all        []*one
}

// find returns the datagram with a tag.
func (p *plain) find(tag int) *one {
	for _, d := range p.all {
		if d.tag == tag {
			return d
		}
	}
	return nil
}

// has returns the data of a part.
func (d *one) has(index int) (string, bool) {
	for _, c := range d.got {
		if c.fragment.Index == index {
			return c.fragment.Data, true
		}
	}
	return "", false
}

// agrees says whether a fragment agrees with those that were taken.
func (d *one) agrees(c cut) bool {
	for _, other := range d.got {
		f, g := c.fragment, other.fragment
		if f.Count != g.Count || f.Size != g.Size || f.Count > 1 && c.most != other.most {
			return false
		}
		if f.Index == g.Index && f.Data != g.Data {
			return false
		}
	}
	return true
}

// bitmap returns the bitmap of the parts that were taken.
func (d *one) bitmap() int {
	n := 0
	for i := range 32 {
		if _, found := d.has(i); found {
			n += 1 << i
		}
	}
	return n
}

// receive receives a valid fragment.
func (p *plain) receive(slot int, c cut) (string, bool, api.Errno) {
	if slot < p.time || slot > lastSlot {
		return "", false, api.ErrOrder
	}
	p.time = slot
	p.all = slices.DeleteFunc(p.all, func(d *one) bool { return d.last < slot-p.hold })
	d := p.find(c.fragment.Tag)
	if d == nil {
		if len(p.all) == 8 {
			return "", false, api.ErrFull
		}
		d = &one{tag: c.fragment.Tag}
		p.all = append(p.all, d)
	}
	if !d.agrees(c) {
		return "", false, api.ErrMismatch
	}
	d.last, d.got = slot, append(d.got, c)
	whole := ""
	for i := range c.fragment.Count {
		data, found := d.has(i)
		if !found {
			return "", false, api.OK
		}
		whole += data
	}
	if d.done {
		return "", false, api.OK
	}
	d.done = true
	return whole, true, api.OK
}

// randomCuts returns the fragments of datagrams, several of which have one tag.
func randomCuts(r *rand.Rand, tags int) []cut {
	var l []cut
	for range tags + r.Intn(6) {
		tag, most, data := r.Intn(tags), 1+r.Intn(4), strings.Repeat(string(rune('a'+r.Intn(2))), 1+r.Intn(9))
		for _, f := range divide(tag, data, most) {
			l = append(l, cut{f, most})
		}
	}
	return l
}

// Whatever is received, the results are those of a plain receiver.
func TestReceiveStepByStep(t *testing.T) {
	r := rand.New(rand.NewSource(6))
	seen := map[api.Errno]int{}
	delivered := 0
	for range 3000 {
		hold := []int{r.Intn(4), r.Intn(12), 20 + r.Intn(30)}[r.Intn(3)]
		got, want := receiver(t, hold), &plain{hold: hold}
		cuts := randomCuts(r, 1+r.Intn(24))
		slot := 0
		for range 60 {
			slot += []int{0, 0, 0, 1, 1, 3, 13, -1}[r.Intn(8)]
			c := cuts[r.Intn(len(cuts))]
			data, done, e := want.receive(slot, c)
			expect(t, got, slot, c.fragment, data, done, e)
			compareHeld(t, got, want)
			slot = want.time
			seen[e]++
			if done {
				delivered++
			}
		}
		if t.Failed() {
			return
		}
	}
	for _, e := range []api.Errno{api.OK, api.ErrOrder, api.ErrFull, api.ErrMismatch} {
		if seen[e] < 1000 {
			t.Errorf("error %d: only %d", e, seen[e])
		}
	}
	if delivered < 1000 {
		t.Errorf("only %d are delivered", delivered)
	}
}

// compareHeld compares what both receivers have.
func compareHeld(t *testing.T, got *fragment.Receiver, want *plain) {
	t.Helper()
	var tags []int
	for _, d := range want.all {
		tags = append(tags, d.tag)
		if b, e := got.Bitmap(d.tag); b != d.bitmap() || e != api.OK {
			t.Errorf("tag %d: bitmap %b, error %d; want %b", d.tag, b, e, d.bitmap())
		}
	}
	slices.Sort(tags)
	if l := got.Tags(); !slices.Equal(l, tags) {
		t.Errorf("tags %v, want %v", l, tags)
	}
}

// sent is a datagram with its fragments.
type sent struct {
	data      string
	fragments []api.Fragment
}

// randomSent returns datagrams with the tags from 0 on.
func randomSent(t *testing.T, r *rand.Rand, n int) []sent {
	t.Helper()
	l := make([]sent, n)
	for tag := range l {
		most := 1 + r.Intn(120)
		b := make([]byte, 1+r.Intn(min(4095, 32*most)))
		r.Read(b)
		l[tag] = sent{string(b), split(t, tag, string(b), most)}
	}
	return l
}

// onTheWay returns fragments in a random order, with some lost and some repeated.
func onTheWay(r *rand.Rand, l []sent) []api.Fragment {
	lost := r.Intn(3)
	var way []api.Fragment
	for _, s := range l {
		for _, f := range s.fragments {
			for range []int{1, 1, r.Intn(4)}[lost] {
				way = append(way, f)
			}
		}
	}
	r.Shuffle(len(way), func(i, j int) { way[i], way[j] = way[j], way[i] })
	return way
}

// arrived returns the bitmaps of what arrived.
func arrived(way []api.Fragment, n int) []int {
	bitmaps := make([]int, n)
	for _, f := range way {
		bitmaps[f.Tag] |= 1 << f.Index
	}
	return bitmaps
}

// Each datagram is delivered once and whole as soon as all of its fragments have arrived, and otherwise not; what is missing completes it.
func TestDatagramsOverLosses(t *testing.T) {
	r := rand.New(rand.NewSource(7))
	completed := 0
	for range 300 {
		l := randomSent(t, r, 1+r.Intn(8))
		way := onTheWay(r, l)
		got := receiver(t, 4096)
		times := make([]int, len(l))
		deliver := func(slot int, f api.Fragment) {
			data, done, e := got.Receive(slot, f)
			if e != api.OK || done && data != l[f.Tag].data || !done && data != "" {
				t.Fatalf("%v: %q, %v, error %d", f, data, done, e)
			}
			if done {
				times[f.Tag]++
			}
		}
		for slot, f := range way {
			deliver(slot, f)
			if whole := arrived(way[:slot+1], len(l))[f.Tag] == 1<<f.Count-1; whole != (times[f.Tag] == 1) || times[f.Tag] > 1 {
				t.Fatalf("%v: delivered %d times", f, times[f.Tag])
			}
		}
		for _, f := range complete(t, got, l, arrived(way, len(l))) {
			if times[f.Tag] != 0 {
				t.Fatalf("tag %d is delivered, but something is missing", f.Tag)
			}
			completed++
			deliver(len(way), f)
		}
		for tag, n := range times {
			if n != 1 {
				t.Fatalf("tag %d of %d: delivered %d times", tag, len(l), n)
			}
		}
	}
	if completed < 1000 {
		t.Errorf("only %d fragments were missing", completed)
	}
}

// complete returns the fragments that are missing by the bitmaps, the last one of each datagram behind all others.
func complete(t *testing.T, r *fragment.Receiver, l []sent, bitmaps []int) []api.Fragment {
	t.Helper()
	var inner, last []api.Fragment
	for tag, s := range l {
		bitmap, e := r.Bitmap(tag)
		if bitmap != bitmaps[tag] || (e == api.OK) != (bitmap != 0) {
			t.Fatalf("tag %d: bitmap %b, error %d, want %b", tag, bitmap, e, bitmaps[tag])
		}
		missing, e := fragment.Missing(len(s.fragments), bitmap)
		if e != api.OK {
			t.Fatalf("error %d", e)
		}
		for i, index := range missing {
			if i == len(missing)-1 {
				last = append(last, s.fragments[index])
			} else {
				inner = append(inner, s.fragments[index])
			}
		}
	}
	return append(inner, last...)
}

// Up to eight tags do not influence one another: each one fares as if it were alone.
func TestTagsDoNotInfluenceOneAnother(t *testing.T) {
	r := rand.New(rand.NewSource(8))
	mismatches := 0
	for range 1000 {
		hold := r.Intn(10)
		cuts := randomCuts(r, 8)
		all, alone := receiver(t, hold), make([]*fragment.Receiver, 8)
		for tag := range alone {
			alone[tag] = receiver(t, hold)
		}
		slot := 0
		for range 100 {
			slot += r.Intn(3)
			f := cuts[r.Intn(len(cuts))].fragment
			data, done, e := alone[f.Tag].Receive(slot, f)
			expect(t, all, slot, f, data, done, e)
			if e == api.ErrMismatch {
				mismatches++
			}
			bitmap, _ := alone[f.Tag].Bitmap(f.Tag)
			if b, e := all.Bitmap(f.Tag); b != bitmap || e != api.OK {
				t.Fatalf("%v: bitmap %b, error %d, want %b", f, b, e, bitmap)
			}
		}
	}
	if mismatches < 100 {
		t.Errorf("only %d mismatches", mismatches)
	}
}
