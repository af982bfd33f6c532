package compress

import (
	"slices"

	"hopmesh/api"
	"hopmesh/bitio"
)

const (
	byteWidth   = 8
	formWidth   = 2
	indexWidth  = 3
	portWidth   = 16
	nearWidth   = 4
	blockWidth  = 8
	shortWidth  = 6
	longWidth   = 12
	mostShort   = 63
	firstNear   = 61616
	lastNear    = 61631
	firstBlock  = 61440
	lastBlock   = 61695
	portsFull   = 0
	portsEqual  = 1
	portsBlock  = 2
	portsNear   = 3
	limitInFull = 0
)

// limits returns the limits that have a form of their own, by these forms.
func limits() [4]int { return [4]int{1: 1, 2: 64, 3: 255} }

// write returns a writer that has written a header.
func write(l []api.Context, h api.Header) (*bitio.Writer, api.Errno) {
	if !areContexts(l) || !isHeader(h) {
		return nil, api.ErrArg
	}
	w := bitio.NewWriter()
	for _, part := range writers(w, l, h) {
		part()
	}
	return w, api.OK
}

// writers returns what writes the parts of a header, in their order.
func writers(w *bitio.Writer, l []api.Context, h api.Header) []func() {
	return []func(){
		func() { writeClass(w, h.Class) },
		func() { writeLimit(w, h.Limit) },
		func() { writeAddress(w, l, h.Source) },
		func() { writeAddress(w, l, h.Target) },
		func() { writePorts(w, h.Port, h.Reply) },
		func() { writeLength(w, h.Length) },
	}
}

// read returns the header that is read: anything, if the bits are no header.
func read(l []api.Context, r *bitio.Reader) api.Header {
	var h api.Header
	for _, part := range readers(r, l, &h) {
		part()
	}
	return h
}

// readers returns what reads the parts of a header, in their order.
func readers(r *bitio.Reader, l []api.Context, h *api.Header) []func() {
	return []func(){
		func() { h.Class = readClass(r) },
		func() { h.Limit = readLimit(r) },
		func() { h.Source = readAddress(r, l) },
		func() { h.Target = readAddress(r, l) },
		func() { h.Port, h.Reply = readPorts(r) },
		func() { h.Length = readLength(r) },
	}
}

// writeClass writes a class, if it is not 0.
func writeClass(w *bitio.Writer, class int) {
	w.Flag(class != 0)
	if class != 0 {
		w.Unsigned(byteWidth, class)
	}
}

// readClass reads a class.
func readClass(r *bitio.Reader) int {
	if !r.Flag() {
		return 0
	}
	return r.Unsigned(byteWidth)
}

// writeLimit writes a limit. The index -1 of one that has no form of its own leads to the form 0, which is followed by the limit.
func writeLimit(w *bitio.Writer, limit int) {
	own := limits()
	form := 1 + slices.Index(own[1:], limit)
	w.Unsigned(formWidth, form)
	if form == limitInFull {
		w.Unsigned(byteWidth, limit)
	}
}

// readLimit reads a limit.
func readLimit(r *bitio.Reader) int {
	form := r.Unsigned(formWidth)
	if form == limitInFull {
		return r.Unsigned(byteWidth)
	}
	return limits()[form]
}

// writeAddress writes an address, without the prefix of its context.
func writeAddress(w *bitio.Writer, l []api.Context, address string) {
	index, found := Find(l, address)
	w.Flag(found)
	known := 0
	if found {
		w.Unsigned(indexWidth, index)
		known = len(l[index].Prefix)
	}
	for _, b := range []byte(address[known:]) {
		w.Unsigned(byteWidth, int(b))
	}
}

// readAddress reads an address: none, if there is no context with its index.
func readAddress(r *bitio.Reader, l []api.Context) string {
	address := ""
	if r.Flag() {
		index := r.Unsigned(indexWidth)
		if index >= len(l) {
			return ""
		}
		address = l[index].Prefix
	}
	bytes := []byte(address)
	for len(bytes) < addressSize {
		bytes = append(bytes, byte(r.Unsigned(byteWidth)))
	}
	return string(bytes)
}

// writePorts writes both ports in the first form that fits.
func writePorts(w *bitio.Writer, port, reply int) {
	form := formOfPorts(port, reply)
	w.Unsigned(formWidth, form)
	switch form {
	case portsNear:
		w.Unsigned(nearWidth, port-firstNear)
		w.Unsigned(nearWidth, reply-firstNear)
	case portsEqual:
		w.Unsigned(portWidth, port)
	case portsBlock:
		w.Unsigned(blockWidth, port-firstBlock)
		w.Unsigned(portWidth, reply)
	case portsFull:
		w.Unsigned(portWidth, port)
		w.Unsigned(portWidth, reply)
	}
}

// formOfPorts returns the first form that fits.
func formOfPorts(port, reply int) int {
	switch {
	case isNear(port) && isNear(reply):
		return portsNear
	case port == reply:
		return portsEqual
	case within(port, firstBlock, lastBlock):
		return portsBlock
	}
	return portsFull
}

// isNear says whether a port is one of those that have 4 bits.
func isNear(port int) bool { return within(port, firstNear, lastNear) }

// readPorts reads both ports.
func readPorts(r *bitio.Reader) (port, reply int) {
	switch r.Unsigned(formWidth) {
	case portsNear:
		port = firstNear + r.Unsigned(nearWidth)
		return port, firstNear + r.Unsigned(nearWidth)
	case portsEqual:
		port = r.Unsigned(portWidth)
		return port, port
	case portsBlock:
		port = firstBlock + r.Unsigned(blockWidth)
		return port, r.Unsigned(portWidth)
	}
	port = r.Unsigned(portWidth)
	return port, r.Unsigned(portWidth)
}

// writeLength writes a length, short if it fits.
func writeLength(w *bitio.Writer, length int) {
	long := length > mostShort
	w.Flag(long)
	w.Unsigned(lengthWidth(long), length)
}

// readLength reads a length.
func readLength(r *bitio.Reader) int { return r.Unsigned(lengthWidth(r.Flag())) }

// lengthWidth returns the width of a length behind its flag.
func lengthWidth(long bool) int {
	if long {
		return longWidth
	}
	return shortWidth
}
