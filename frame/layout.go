package frame

import (
	"hopmesh/api"
	"hopmesh/bitio"
	"hopmesh/crc"
)

const (
	kindWidth  = 3
	nodeWidth  = 5
	byteWidth  = 8
	wordWidth  = 16
	errorWidth = 16
	slotWidth  = 27
	mostText   = api.MaxFrame
)

// layout says where the fields of a frame stand: they are written or read in its order.
type layout struct {
	frame    *api.Frame
	unsigned func(width int, n *int)
	signed   func(width int, n *int)
	flag     func(set bool) bool
	text     func(most int, s *string)
}

// kinds returns where the fields stand that are named for single kinds.
func kinds() map[int]func(layout) {
	return map[int]func(layout){
		api.FrameData:    layout.data,
		api.FrameAck:     layout.ack,
		api.FrameBeacon:  layout.beacon,
		api.FrameMessage: layout.message,
	}
}

// all goes over all fields.
func (l layout) all() {
	l.unsigned(kindWidth, &l.frame.Kind)
	l.unsigned(nodeWidth, &l.frame.Source)
	l.target()
	l.unsigned(byteWidth, &l.frame.List)
	l.unsigned(byteWidth, &l.frame.Sequence)
	if fields, known := kinds()[l.frame.Kind]; known {
		fields(l)
	}
}

// target goes over a flag, and the target if there is one.
func (l layout) target() {
	if l.flag(l.frame.Target != everyone) {
		l.unsigned(nodeWidth, &l.frame.Target)
	} else {
		l.frame.Target = everyone
	}
}

// data goes over the fields of data.
func (l layout) data() {
	l.unsigned(byteWidth, &l.frame.Flow)
	l.unsigned(wordWidth, &l.frame.Number)
	l.message()
}

// ack goes over the field of an acknowledgement.
func (l layout) ack() { l.signed(errorWidth, &l.frame.Error) }

// beacon goes over the fields of a beacon.
func (l layout) beacon() {
	l.unsigned(slotWidth, &l.frame.Slot)
	l.unsigned(wordWidth, &l.frame.Rank)
	l.unsigned(wordWidth, &l.frame.Epoch)
	l.message()
}

// message goes over the field of a message.
func (l layout) message() { l.text(mostText, &l.frame.Data) }

// writing returns the layout that writes a frame.
func writing(w *bitio.Writer, f *api.Frame) layout {
	return layout{
		frame:    f,
		unsigned: func(width int, n *int) { w.Unsigned(width, *n) },
		signed:   func(width int, n *int) { w.Signed(width, *n) },
		flag: func(set bool) bool {
			w.Flag(set)
			return set
		},
		text: func(most int, s *string) { w.Text(most, *s) },
	}
}

// reading returns the layout that reads a frame.
func reading(r *bitio.Reader, f *api.Frame) layout {
	return layout{
		frame:    f,
		unsigned: func(width int, n *int) { *n = r.Unsigned(width) },
		signed:   func(width int, n *int) { *n = r.Signed(width) },
		flag:     func(bool) bool { return r.Flag() },
		text:     func(most int, s *string) { *s = r.Text(most) },
	}
}

// Encode returns the bytes of a frame.
func Encode(f api.Frame) (string, api.Errno) {
	if !isValid(f) {
		return "", api.ErrArg
	}
	w := bitio.NewWriter()
	writing(w, &f).all()
	// a valid frame fails by a text alone that is longer than a frame can be
	bits, err := w.Bytes()
	if err != api.OK {
		return "", api.ErrTooLarge
	}
	data := crc.Protect(bits)
	if len(data) > api.MaxFrame {
		return "", api.ErrTooLarge
	}
	return data, api.OK
}

// Decode returns the frame with some bytes.
func Decode(data string) (api.Frame, api.Errno) {
	if len(data) > api.MaxFrame {
		return api.Frame{}, api.ErrTooLarge
	}
	bits, err := crc.Check(data)
	if err != api.OK {
		return api.Frame{}, err
	}
	r, f := bitio.NewReader(bits), api.Frame{}
	reading(r, &f).all()
	if r.Close() != api.OK || !isValid(f) {
		return api.Frame{}, api.ErrCorrupt
	}
	return f, api.OK
}
