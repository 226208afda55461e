package bloom_test

import (
	"slices"
	"testing"

	"convoy/bloom"
)

// P5.2: each key that a filter was built with may be there, whatever the keys, their number and their bits.
func TestNoFalseNegatives(t *testing.T) {
	keys := append(slices.Clone(texts), numbered("key", 300)...)
	for _, per := range pers {
		for _, count := range []int{1, 2, 3, 20, 64, 65, 84, 320} {
			f := bloom.Build(keys[:count], per)
			for _, key := range keys[:count] {
				checkMay(t, "P5.2", f, key, true)
			}
		}
	}
}

// P5.2: also each of the first 2^16 keys of a long list.
func TestNoFalseNegativesOfMany(t *testing.T) {
	keys := numbered("key", 1<<16+100)
	for _, per := range []int{1, 10, 24} {
		f := bloom.Build(keys, per)
		for _, key := range keys[:1<<16] {
			checkMay(t, "P5.2", f, key, true)
		}
	}
}

// P5.1: of the keys that a filter was not built with, few may be there when each key has ten bits.
func TestFewFalsePositives(t *testing.T) {
	for _, count := range []int{7, 84, 1000, 1 << 16} {
		f := bloom.Build(numbered("key", count), 10)
		wrong := 0
		for _, key := range numbered("other", 10000) {
			if bloom.May(f, key) {
				wrong++
			}
		}
		if wrong > 500 {
			t.Errorf("P5.1: of 10000 other keys %d may be among %d", wrong, count)
		}
	}
}
