package guard

import (
	"hopmesh/api"
	"hopmesh/clock"
)

const (
	frameTime = api.ByteTime * (api.MaxFrame + api.FrameExtra)
	ackTime   = api.ByteTime * (api.AckSize + api.FrameExtra)
	// airTime is the time from the beginning of the longest frame to the end of its acknowledgement.
	airTime = frameTime + api.AckDelay + ackTime
)

// hand is a clock by which times of slots are found.
type hand struct{ clock api.Clock }

// send returns when a frame that is sent in a slot begins.
func (h hand) send(slot int) (int, api.Errno) { return clock.Send(h.clock, slot) }

// window returns the first and the last time of the window of a slot.
func (h hand) window(slot int) (int, int, api.Errno) { return clock.Window(h.clock, slot) }

// end returns when a slot ends, also behind MaxTime.
func (h hand) end(slot int) (int, api.Errno) {
	begin, err := h.send(slot)
	if err != api.OK {
		return 0, err
	}
	return begin + airTime, api.OK
}

// End returns a slot's end by a clock.
func End(c api.Clock, slot int) (int, api.Errno) {
	return inTime(hand{c}.end, slot)
}

// inTime returns what is found for a slot, unless that is behind MaxTime.
func inTime(find func(slot int) (int, api.Errno), slot int) (int, api.Errno) {
	t, err := find(slot)
	if err != api.OK {
		return 0, err
	}
	if t > api.MaxTime {
		return 0, api.ErrLate
	}
	return t, api.OK
}

// arrival has the time at which a frame is sent, and the first and the last time of the window of its receiver.
type arrival struct{ sent, first, last int }

// arrive returns the arrival in a slot, whose times are found by two functions.
func arrive(send func(slot int) (int, api.Errno), window func(slot int) (int, int, api.Errno), slot int) (arrival, api.Errno) {
	sent, err := send(slot)
	if err != api.OK {
		return arrival{}, err
	}
	first, last, err := window(slot)
	if err != api.OK {
		return arrival{}, err
	}
	return arrival{sent, first, last}, api.OK
}

// Fits reports whether a frame begins within the window of the receiver.
func Fits(sender, receiver api.Clock, slot int) (bool, api.Errno) {
	a, err := arrive(hand{sender}.send, hand{receiver}.window, slot)
	if err != api.OK {
		return false, err
	}
	return within(a.sent, a.first, a.last), api.OK
}

// Late returns how much too late a frame comes for the receiver.
func Late(sender, receiver api.Clock, slot int) (int, api.Errno) {
	a, err := arrive(hand{sender}.send, hand{receiver}.window, slot)
	if err != api.OK {
		return 0, err
	}
	// the receiver is valid, and what is sent is sent at a time
	shown, _ := clock.Show(receiver, a.sent)
	return shown - (slot*api.SlotTime + api.TxOffset), api.OK
}
