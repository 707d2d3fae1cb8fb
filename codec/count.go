package codec

import "math/bits"

// A count is written in groups of 7 bits, each in a byte; more is added to all bytes but the last one.
const (
	groupBits = 7
	groupMask = 127
	more      = 128
	countBits = 64
)

func appendCount(out []byte, c uint64) []byte {
	for ; c > groupMask; c >>= groupBits {
		out = append(out, byte(c&groupMask)|more)
	}
	return append(out, byte(c))
}

func countSize(c uint64) int { return max(1, (bits.Len64(c)+groupBits-1)/groupBits) }
