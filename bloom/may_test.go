package bloom_test

import (
	"bytes"
	"testing"

	"convoy/bloom"
)

// P5.1: bytes that are no valid filter for want of bits, or of a number of places, or since they are too many: the key may be there.
func TestNoValidFilter(t *testing.T) {
	zeros := make([]byte, 1<<20+2)
	zeros[1<<20], zeros[1<<20+1] = 1, 1
	wrong := [][]byte{
		nil, {}, {0}, {1}, {6}, {16}, {255}, {0, 0}, {0, 17}, {0, 18}, {0, 128}, {0, 255},
		make([]byte, 9), make([]byte, 1<<20), zeros[1:], zeros, zeros[:1<<20+1],
		filterOf(8, 0), filterOf(8, 17), filterOf(1<<20-1, 0), filterOf(1<<20-1, 17), filterOf(1<<20, 6), filterOf(1<<20, 1),
		make([]byte, 1<<21), filterOf(1<<21, 6),
	}
	for _, f := range wrong {
		for _, key := range texts {
			checkMay(t, "P5.1", f, key, true)
		}
	}
}

// P5.1: the least and the greatest valid filters, with each number of places: without a bit that is 1 no key is there, with all of them each is.
func TestValidFilters(t *testing.T) {
	for _, size := range []int{1, 2, 3, 7, 8, 9, 1000, 1<<20 - 2, 1<<20 - 1} {
		none, all := make([]byte, size+1), bytes.Repeat([]byte{255}, size+1)
		for k := 1; k <= 16; k++ {
			none[size], all[size] = byte(k), byte(k)
			for _, key := range texts {
				checkMay(t, "P5.1", none, key, false)
				checkMay(t, "P5.1", all, key, true)
			}
		}
	}
}

// P5.1: a key is there just if all of its places are 1: its places alone suffice, and each of them is needed.
func TestEachPlace(t *testing.T) {
	for _, size := range []int{1, 2, 3, 8, 9, 13, 47, 376, 1<<20 - 1} {
		for _, key := range texts {
			for _, k := range []int{1, 2, 6, 15, 16} {
				f := filterOf(size, byte(k), wantPlaces(key, k, 8*size)...)
				checkMay(t, "P5.1", f, key, true)
				for _, p := range wantPlaces(key, k, 8*size) {
					f[p/8] ^= 1 << (p % 8)
					checkMay(t, "P5.1", f, key, false)
					f[p/8] ^= 1 << (p % 8)
				}
			}
		}
	}
}

// P5.1: a key is not there if its places alone are 0, however many others are 1.
func TestOtherPlaces(t *testing.T) {
	for _, key := range texts {
		for _, size := range []int{8, 9, 1000} {
			for k := 1; k <= 16; k++ {
				f := append(bytes.Repeat([]byte{255}, size), byte(k))
				p := wantPlaces(key, k, 8*size)[k-1]
				f[p/8] &^= 1 << (p % 8)
				checkMay(t, "P5.1", f, key, false)
			}
		}
	}
}

// P5.1: the last byte tells k and is none of the bits: its own ones and zeros are not asked.
func TestLastByteIsNoBits(t *testing.T) {
	// Of one byte of bits: the places of a among 8 are 4, 2, 0, 6, 4 ..; among 16 they would be 12 first.
	checkMay(t, "P5.1", []byte{0x10, 1}, "a", true)
	checkMay(t, "P5.1", []byte{0xef, 1}, "a", false)
	checkMay(t, "P5.1", []byte{0x10, 2}, "a", false)
	checkMay(t, "P5.1", []byte{0x14, 2}, "a", true)
	checkMay(t, "P5.1", []byte{0x14, 3}, "a", false)
	checkMay(t, "P5.1", []byte{0x15, 3}, "a", true)
	checkMay(t, "P5.1", []byte{0x55, 4}, "a", true)
	checkMay(t, "P5.1", []byte{0x55, 16}, "a", true)
	checkMay(t, "P5.1", []byte{0xaa, 16}, "a", false)
	checkMay(t, "P5.1", []byte{0x00, 16}, "a", false)
}

// P5.1: the examples of the chapter.
func TestExamples(t *testing.T) {
	checkMay(t, "P5.1", bloom.Build([]string{"a"}, 10), "a", true)
	checkMay(t, "P5.1", bloom.Build([]string{"a"}, 10), "b", false)
	checkMay(t, "P5.1", nil, "a", true)
	checkMay(t, "P5.1", []byte{0, 0}, "a", true)
}
