package clock

import "hopmesh/api"

// Begin returns when a slot begins.
func Begin(c api.Clock, slot int) (int, api.Errno) {
	if err := checkSlot(c, slot); err != api.OK {
		return 0, err
	}
	return dialOf(c).reach(slot * api.SlotTime)
}

// Send returns when a frame that is sent in a slot begins.
func Send(c api.Clock, slot int) (int, api.Errno) {
	if err := checkSlot(c, slot); err != api.OK {
		return 0, err
	}
	return dialOf(c).reach(sending(slot))
}

// Window returns the first and the last time of the window of a slot.
func Window(c api.Clock, slot int) (int, int, api.Errno) {
	if err := checkSlot(c, slot); err != api.OK {
		return 0, 0, err
	}
	d := dialOf(c)
	// one behind the last time the clock shows more than the end of the window
	behind, err := d.reach(sending(slot) + api.GuardTime + 1)
	if err != api.OK {
		return 0, 0, err
	}
	// what is less is reached as well
	first, _ := d.reach(sending(slot) - api.GuardTime)
	return first, behind - 1, api.OK
}

// checkSlot checks a clock and a slot.
func checkSlot(c api.Clock, slot int) api.Errno {
	if Check(c) != api.OK {
		return api.ErrArg
	}
	if !within(slot, 0, api.MaxSlot) {
		return api.ErrRange
	}
	return api.OK
}

// sending returns what a clock shows when a frame that is sent in a slot begins.
func sending(slot int) int { return slot*api.SlotTime + api.TxOffset }

// Slot returns the slot of which a clock shows a time.
func Slot(c api.Clock, t int) (int, api.Errno) {
	shown, err := Show(c, t)
	if err != api.OK {
		return 0, err
	}
	if shown < 0 {
		return 0, api.ErrEmpty
	}
	return shown / api.SlotTime, api.OK
}
