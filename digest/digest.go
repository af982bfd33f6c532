// Package digest computes digests of strings: the function BLAKE2s, also with a key (shared/doc/01-digest.md).
package digest

import (
	"math/bits"

	"hopmesh/api"
)

const (
	blockSize = 64
	rounds    = 10
	maxKey    = 32
	// parameters are the digest's length and the absence of a tree, as they stand in the first word
	parameters = 0x01010020
	keyFactor  = 0x100
	hexDigits  = "0123456789abcdef"
)

var initial = [8]uint32{
	0x6a09e667, 0xbb67ae85, 0x3c6ef372, 0xa54ff53a,
	0x510e527f, 0x9b05688c, 0x1f83d9ab, 0x5be0cd19,
}

// lanes has the words of the state that a round mixes: first the columns, then the diagonals.
var lanes = [8][4]uint8{
	{0, 4, 8, 12}, {1, 5, 9, 13}, {2, 6, 10, 14}, {3, 7, 11, 15},
	{0, 5, 10, 15}, {1, 6, 11, 12}, {2, 7, 8, 13}, {3, 4, 9, 14},
}

// sigma says for each round in which order the words of the block are mixed in.
var sigma = [rounds][16]uint8{
	{0, 1, 2, 3, 4, 5, 6, 7, 8, 9, 10, 11, 12, 13, 14, 15},
	{14, 10, 4, 8, 9, 15, 13, 6, 1, 12, 0, 2, 11, 7, 5, 3},
	{11, 8, 12, 0, 5, 2, 15, 13, 10, 14, 3, 6, 7, 1, 9, 4},
	{7, 9, 3, 1, 13, 12, 11, 14, 2, 6, 5, 10, 4, 0, 15, 8},
	{9, 0, 5, 7, 2, 4, 10, 15, 14, 1, 11, 12, 6, 8, 3, 13},
	{2, 12, 6, 10, 0, 11, 8, 3, 4, 13, 7, 5, 15, 14, 1, 9},
	{12, 5, 1, 15, 14, 13, 4, 10, 0, 7, 6, 3, 9, 2, 8, 11},
	{13, 11, 7, 14, 12, 1, 3, 9, 5, 0, 15, 4, 8, 6, 2, 10},
	{6, 15, 14, 9, 11, 3, 0, 8, 12, 2, 13, 7, 1, 4, 10, 5},
	{10, 2, 8, 4, 7, 6, 1, 5, 15, 11, 9, 14, 3, 12, 13, 0},
}

// Mix mixes the four words v of a state with the words x and y.
func Mix(v [4]uint32, x, y uint32) [4]uint32 {
	a, b, c, d := mixHalf(v[0], v[1], v[2], v[3], x, 16, 12)
	a, b, c, d = mixHalf(a, b, c, d, y, 8, 7)
	return [4]uint32{a, b, c, d}
}

// mixHalf mixes in one word, and rotates to the right by the numbers right and then.
func mixHalf(a, b, c, d, x uint32, right, then int) (uint32, uint32, uint32, uint32) {
	a += b + x
	d = bits.RotateLeft32(d^a, -right)
	c += d
	b = bits.RotateLeft32(b^c, -then)
	return a, b, c, d
}

// Compress returns the chain value that follows h after the block m, where t bytes end; last says that no block follows.
func Compress(h [8]uint32, m [16]uint32, t uint64, last bool) [8]uint32 {
	var v [16]uint32
	copy(v[:8], h[:])
	for i, word := range initial {
		v[8+i] = word
	}
	v[12] ^= uint32(t)
	v[13] ^= uint32(t >> 32)
	if last {
		v[14] = ^v[14]
	}
	for r := range rounds {
		mixRound(&v, &m, r)
	}
	for i := range h {
		h[i] ^= v[i] ^ v[i+8]
	}
	return h
}

// mixRound plays the round r on the state v with the block m.
func mixRound(v, m *[16]uint32, r int) {
	for i := range lanes {
		p, q, s, t := lanes[i][0], lanes[i][1], lanes[i][2], lanes[i][3]
		mixed := Mix([4]uint32{v[p], v[q], v[s], v[t]}, m[sigma[r][2*i]], m[sigma[r][2*i+1]])
		v[p], v[q], v[s], v[t] = mixed[0], mixed[1], mixed[2], mixed[3]
	}
}

// Sum returns the digest of a string.
func Sum(data string) string {
	h := New()
	h.Write(data)
	return h.Sum()
}

// Keyed returns the digest of a string with a key of at most 32 bytes.
func Keyed(key, data string) (string, api.Errno) {
	if len(key) > maxKey {
		return "", api.ErrArg
	}
	h := New()
	h.chain[0] ^= keyFactor * uint32(len(key))
	if key != "" {
		var block [blockSize]byte
		copy(block[:], key)
		h.Write(string(block[:]))
	}
	h.Write(data)
	return h.Sum(), api.OK
}

// Hex returns the text of a digest.
func Hex(digest string) (string, api.Errno) {
	if len(digest) != api.DigestSize {
		return "", api.ErrArg
	}
	var text [2 * api.DigestSize]byte
	for i := range len(digest) {
		text[2*i] = hexDigits[digest[i]>>4]
		text[2*i+1] = hexDigits[digest[i]&15]
	}
	return string(text[:]), api.OK
}

// Parse returns the digest with a text.
func Parse(text string) (string, api.Errno) {
	if len(text) != 2*api.DigestSize {
		return "", api.ErrSyntax
	}
	var digest [api.DigestSize]byte
	for i := range len(text) {
		value, ok := digitValue(text[i])
		if !ok {
			return "", api.ErrSyntax
		}
		digest[i/2] = digest[i/2]<<4 | value
	}
	return string(digest[:]), api.OK
}

// digitValue returns the value of a hexadecimal digit; capitals are none.
func digitValue(c byte) (byte, bool) {
	switch {
	case '0' <= c && c <= '9':
		return c - '0', true
	case 'a' <= c && c <= 'f':
		return c - 'a' + 10, true
	}
	return 0, false
}
