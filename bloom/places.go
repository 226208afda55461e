package bloom

import (
	"iter"
	"math/bits"
)

// places yields the k places of a key among n bits.
func places(key string, k, n int) iter.Seq[int] {
	return func(yield func(int) bool) {
		h := Hash(key)
		turn := bits.RotateLeft32(h, -17) // to the right
		for range k {
			if !yield(int(h % uint32(n))) {
				return
			}
			h += turn
		}
	}
}
