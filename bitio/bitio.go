// Package bitio writes and reads bit strings: integers of any width, and strings, without gaps (shared/doc/02-bitio.md).
package bitio

import (
	"math/bits"

	"hopmesh/api"
)

const (
	byteBits   = 8
	maxWidth   = 63
	maxText    = 4095
	mostBits   = byteBits * api.MaxData
	leastWidth = 1
	leastSign  = 2
)

// Width returns the least width with which a number from 0 to most can be written: 0 if most is negative.
func Width(most int) int {
	if most < 0 {
		return 0
	}
	return max(leastWidth, bits.Len(uint(most)))
}

// isText says whether a text may have the limit most.
func isText(most int) bool { return 1 <= most && most <= maxText }

// isUnsigned and isSigned say whether a field may have the width.
func isUnsigned(width int) bool { return leastWidth <= width && width <= maxWidth }
func isSigned(width int) bool   { return leastSign <= width && width <= maxWidth }
