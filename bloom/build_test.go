package bloom_test

import (
	"bytes"
	"slices"
	"testing"

	"convoy/bloom"
)

// P5.1: small filters whose bytes are known, at and around 64 bits.
func TestBuild(t *testing.T) {
	checkBuild(t, nil, 10, []byte{0, 0, 0, 0, 0, 0, 0, 0, 6})
	checkBuild(t, []string{}, 10, []byte{0, 0, 0, 0, 0, 0, 0, 0, 6})
	checkBuild(t, []string{""}, 10, []byte{0x20, 0x08, 0x08, 0, 0x02, 0x80, 0, 0x20, 6})
	checkBuild(t, []string{"a"}, 1, []byte{0, 0, 0, 0, 0, 0x10, 0, 0, 1})
	checkBuild(t, []string{"a"}, 10, []byte{0x10, 0x04, 0, 0, 0, 0x10, 0x04, 0x41, 6})
	checkBuild(t, []string{"a"}, 24, []byte{0x51, 0x04, 0x41, 0x10, 0x04, 0x51, 0x14, 0x45, 16})
	checkBuild(t, numbered("", 8), 8, []byte{0x86, 0xc3, 0x71, 0x1c, 0x8e, 0xe3, 0x70, 0x18, 5})
	checkBuild(t, numbered("", 13), 5, []byte{0x5d, 0xfb, 0x24, 0x98, 0xb4, 0x0f, 0x40, 0x93, 0xf4, 3})
	checkBuild(t, []string{"a", "b", "c", "d", "e", "f", "g", "h"}, 9, []byte{0xf6, 0xbe, 0x3f, 0xe9, 0x81, 0xaa, 0x54, 0x55, 0, 6})
}

// P5.1: k for each number of bits a key; below 1 it counts as 1, above 24 as 24.
func TestPer(t *testing.T) {
	for _, per := range pers {
		for _, keys := range [][]string{nil, texts[:1], texts} {
			f := bloom.Build(keys, per)
			if want := wantK[max(1, min(per, 24))]; len(f) == 0 || int(f[len(f)-1]) != want {
				t.Errorf("P5.1: Build of %d keys, %d: %x; want %d at its end", len(keys), per, f, want)
			}
			checkBuild(t, keys, per, wantBuild(keys, per))
		}
	}
}

// P5.1: a filter has a multiple of bits a key, at least 64, rounded up to whole bytes, and one byte more.
func TestSizes(t *testing.T) {
	for _, c := range []struct{ count, per, size int }{
		{0, 1, 8}, {0, 24, 8}, {1, 24, 8}, {2, 24, 8}, {3, 24, 9}, {63, 1, 8}, {64, 1, 8}, {65, 1, 9}, {72, 1, 9}, {73, 1, 10},
		{7, 9, 8}, {8, 8, 8}, {13, 5, 9}, {5, 13, 9}, {6, 10, 8}, {7, 10, 9}, {8, 10, 10}, {9, 10, 12}, {300, 10, 375}, {301, 10, 377},
		{7, -4, 8}, {100, 0, 13}, {100, -1000, 13}, {100, 25, 300}, {100, 1 << 40, 300}, {1001, 23, 2878},
	} {
		if f := bloom.Build(make([]string, c.count), c.per); len(f) != c.size+1 {
			t.Errorf("P5.1: Build of %d keys, %d: %d bytes; want %d", c.count, c.per, len(f), c.size+1)
		}
	}
}

// P5.1: filters of each number of keys have all places of their keys, and no others.
func TestPlaces(t *testing.T) {
	keys := append(slices.Clone(texts), numbered("key", 150)...)
	for count := range keys {
		for _, per := range []int{1, 2, 3, 5, 10, 13, 23, 24} {
			checkBuild(t, keys[:count], per, wantBuild(keys[:count], per))
		}
	}
}

// P5.1: keys that come twice count twice, and the order of the keys doesn't matter.
func TestTwice(t *testing.T) {
	keys := numbered("key", 40)
	once, twice := bloom.Build(keys, 10), bloom.Build(append(slices.Clone(keys), keys...), 10)
	if len(once) != 51 || len(twice) != 101 {
		t.Errorf("P5.1: %d bytes of 40 keys, %d of the same twice; want 51, 101", len(once), len(twice))
	}
	checkBuild(t, append(slices.Clone(keys), keys...), 10, wantBuild(append(slices.Clone(keys), keys...), 10))
	slices.Reverse(keys)
	checkBuild(t, keys, 10, once)
}

// P5.1: of many keys the first 2^16 count: further ones make a filter no longer, and are not added.
func TestManyKeys(t *testing.T) {
	keys := numbered("key", 1<<16+500)
	for _, per := range []int{1, 10, 24} {
		most := bloom.Build(keys[:1<<16], per)
		if len(most) != 8192*per+1 {
			t.Errorf("P5.1: Build of 65536 keys, %d: %d bytes; want %d", per, len(most), 8192*per+1)
		}
		for _, count := range []int{1<<16 - 1, 1 << 16, 1<<16 + 1, 1<<16 + 500} {
			f := bloom.Build(keys[:count], per)
			if !bytes.Equal(f, wantBuild(keys[:count], per)) {
				t.Errorf("P5.1: Build of %d keys, %d: wrong bytes", count, per)
			}
			if count >= 1<<16 && !bytes.Equal(f, most) {
				t.Errorf("P5.1: Build of %d keys, %d: other bytes than of 65536 keys", count, per)
			}
		}
	}
}

// P5.1: further keys are not added, not even when those that count leave nearly all bits 0.
func TestFurtherKey(t *testing.T) {
	keys := make([]string, 1<<16, 1<<16+1)
	f := bloom.Build(append(keys, "further"), 10)
	checkMay(t, "P5.1", f, "", true)
	checkMay(t, "P5.1", f, "further", false)
	keys[1<<16-1] = "last"
	f = bloom.Build(append(keys, "further"), 10)
	checkMay(t, "P5.2", f, "last", true)
	checkMay(t, "P5.1", f, "further", false)
}

// P5.1: a filter of far more keys than count is still a valid one.
func TestFarTooManyKeys(t *testing.T) {
	keys := make([]string, 1<<20)
	keys[1<<16-1] = "last"
	f := bloom.Build(keys, 24)
	if len(f) != 196609 {
		t.Errorf("P5.1: Build of 2^20 keys, 24: %d bytes; want 196609", len(f))
	}
	checkMay(t, "P5.2", f, "last", true)
	checkMay(t, "P5.1", f, "other", false)
}
