package fragment

import (
	"hopmesh/api"
	"hopmesh/bitio"
)

const (
	tagWidth   = 8
	indexWidth = 5
	countWidth = 5
	sizeWidth  = 12
	// headSize is how many bytes the numbers of a fragment have.
	headSize = 4
)

// Encode returns the bytes of a fragment.
func Encode(f api.Fragment) (string, api.Errno) {
	if !isValid(f) {
		return "", api.ErrArg
	}
	return headOf(f) + f.Data, api.OK
}

// headOf returns the bytes of the numbers of a valid fragment, all of which fit into their fields.
func headOf(f api.Fragment) string {
	w := bitio.NewWriter()
	w.Unsigned(tagWidth, f.Tag)
	w.Unsigned(indexWidth, f.Index)
	w.Unsigned(countWidth, f.Count-1)
	w.Unsigned(sizeWidth, f.Size)
	head, _ := w.Bytes()
	return head
}

// Decode returns the fragment with some bytes.
func Decode(data string) (api.Fragment, api.Errno) {
	if len(data) < headSize {
		return api.Fragment{}, api.ErrShort
	}
	r := bitio.NewReader(data[:headSize])
	f := api.Fragment{Data: data[headSize:]}
	f.Tag = r.Unsigned(tagWidth)
	f.Index = r.Unsigned(indexWidth)
	f.Count = r.Unsigned(countWidth) + 1
	f.Size = r.Unsigned(sizeWidth)
	if r.Close() != api.OK || !isValid(f) {
		return api.Fragment{}, api.ErrCorrupt
	}
	return f, api.OK
}
