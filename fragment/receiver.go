package fragment

import (
	"maps"
	"slices"
	"strings"

	"hopmesh/api"
)

// mostDatagrams is how many datagrams a receiver keeps at once.
const mostDatagrams = 8

// datagram is what a receiver has of a datagram. No part is empty, so an empty one is not there.
type datagram struct {
	count, size, part int
	last              int // the slot of its last fragment
	parts             [mostParts]string
}

// begin returns the datagram of a valid fragment, without its part.
func begin(f api.Fragment) datagram {
	return datagram{count: f.Count, size: f.Size, part: partOf(f)}
}

// takes says whether a valid fragment agrees with those that are there.
func (d datagram) takes(f api.Fragment) bool {
	if f.Count != d.count || f.Size != d.size || partOf(f) != d.part {
		return false
	}
	return d.lacks(f.Index) || d.parts[f.Index] == f.Data
}

// lacks says whether a part is not there.
func (d datagram) lacks(index int) bool { return d.parts[index] == "" }

// bitmap returns the bitmap of the parts that are there.
func (d datagram) bitmap() int {
	bitmap := 0
	for i := range d.count {
		if !d.lacks(i) {
			bitmap |= 1 << i
		}
	}
	return bitmap
}

// Receiver puts datagrams together.
type Receiver struct {
	hold, time int
	datagrams  map[int]datagram // by their tags
}

// NewReceiver returns a receiver that has received nothing.
func NewReceiver(hold int) (*Receiver, api.Errno) {
	if !within(hold, 0, api.MaxRun) {
		return nil, api.ErrRange
	}
	return &Receiver{hold: hold}, api.OK
}

// Receive receives a fragment, and returns the datagram that is complete by it.
func (r *Receiver) Receive(slot int, f api.Fragment) (string, bool, api.Errno) {
	if !isValid(f) {
		return "", false, api.ErrArg
	}
	if !within(slot, r.time, api.MaxSlot) {
		return "", false, api.ErrOrder
	}
	r.advance(slot)
	d, known := r.datagrams[f.Tag]
	if !known {
		if len(r.datagrams) >= mostDatagrams {
			return "", false, api.ErrFull
		}
		d = begin(f)
	}
	if !d.takes(f) {
		return "", false, api.ErrMismatch
	}
	isNew := d.lacks(f.Index)
	d.last, d.parts[f.Index] = slot, f.Data
	r.keep(f.Tag, d)
	if !isNew || d.bitmap() != full(d.count) {
		return "", false, api.OK
	}
	return strings.Join(d.parts[:d.count], ""), true, api.OK
}

// advance sets the time, and forgets what has had no fragment for too long.
func (r *Receiver) advance(slot int) {
	r.time = slot
	maps.DeleteFunc(r.datagrams, func(_ int, d datagram) bool { return d.last < slot-r.hold })
}

// keep keeps a datagram, also in a receiver that NewReceiver did not make.
func (r *Receiver) keep(tag int, d datagram) {
	if r.datagrams == nil {
		r.datagrams = map[int]datagram{}
	}
	r.datagrams[tag] = d
}

// Bitmap returns the bitmap of the parts that are there.
func (r *Receiver) Bitmap(tag int) (int, api.Errno) {
	d, known := r.datagrams[tag]
	if !known {
		return 0, api.ErrNotFound
	}
	return d.bitmap(), api.OK
}

// Tags returns the tags of all datagrams that are not forgotten.
func (r *Receiver) Tags() []int { return slices.Sorted(maps.Keys(r.datagrams)) }
