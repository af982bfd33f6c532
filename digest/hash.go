package digest

import "hopmesh/api"

// Hash takes in strings and gives their digest; it is made by New.
type Hash struct {
	chain  [8]uint32
	block  [blockSize]byte
	filled int // bytes in block
	taken  int
}

// New returns a hash that has taken in nothing.
func New() *Hash {
	h := &Hash{chain: initial}
	h.chain[0] ^= parameters
	return h
}

// Write takes in strings, one behind the other, and returns how many bytes were taken in since New.
func (h *Hash) Write(parts ...string) int {
	for _, part := range parts {
		h.take(part)
	}
	return h.taken
}

// take keeps a block that is full until more follows: only the last block is compressed with the flag.
func (h *Hash) take(data string) {
	for len(data) > 0 {
		if h.filled == blockSize {
			h.chain = Compress(h.chain, words(&h.block), uint64(h.taken), false)
			h.filled = 0
		}
		n := copy(h.block[h.filled:], data)
		h.filled += n
		h.taken += n
		data = data[n:]
	}
}

// Sum returns the digest of what was taken in; more can be taken in afterwards.
func (h *Hash) Sum() string {
	block := h.block
	clear(block[h.filled:])
	chain := Compress(h.chain, words(&block), uint64(h.taken), true)
	var digest [api.DigestSize]byte
	for i := range digest {
		digest[i] = byte(chain[i/4] >> (8 * (i % 4)))
	}
	return string(digest[:])
}

// Clone returns an independent copy.
func (h *Hash) Clone() *Hash {
	clone := *h
	return &clone
}

// words loads the words of a block, the lowest byte first.
func words(block *[blockSize]byte) [16]uint32 {
	var m [16]uint32
	for i, b := range block {
		m[i/4] |= uint32(b) << (8 * (i % 4))
	}
	return m
}
