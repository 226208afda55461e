package bloom_test

import (
	"bytes"
	"hash/fnv"
	"math"
	"slices"
	"strconv"
	"strings"
	"testing"

	"convoy/bloom"
)

// wantHash returns the hash of a key by the library.
func wantHash(key string) uint32 {
	h := fnv.New32a()
	h.Write([]byte(key))
	return h.Sum32()
}

// wantPlaces returns the k places of a key among n bits, each on its own, in numbers that don't wrap round.
func wantPlaces(key string, k, n int) []int {
	h := int(wantHash(key))
	turn := h>>17 + h%(1<<17)<<15
	var l []int
	for i := range k {
		l = append(l, (h+i*turn)%(1<<32)%n)
	}
	return l
}

// wantK has the number of places for each number of bits a key, from 1 to 24.
var wantK = []int{1: 1, 1, 2, 2, 3, 4, 4, 5, 6, 6, 7, 8, 8, 9, 10, 11, 11, 12, 13, 13, 14, 15, 15, 16}

// wantBuild returns a filter as the chapter tells it: of a row of bits, eight to a byte.
func wantBuild(keys []string, per int) []byte {
	if len(keys) > 65536 {
		keys = keys[:65536]
	}
	if per < 1 {
		per = 1
	} else if per > 24 {
		per = 24
	}
	n := 64
	for n < len(keys)*per {
		n += 8
	}
	row := make([]bool, n)
	for _, key := range keys {
		for _, p := range wantPlaces(key, wantK[per], n) {
			row[p] = true
		}
	}
	return append(pack(row), byte(wantK[per]))
}

// wantMay tells what the chapter does of a filter and a key.
func wantMay(filter []byte, key string) bool {
	if len(filter) < 2 || len(filter) > 1048576 {
		return true
	}
	k := filter[len(filter)-1]
	if k == 0 || k > 16 {
		return true
	}
	for _, p := range wantPlaces(key, int(k), 8*len(filter)-8) {
		if filter[p/8]&[]byte{1, 2, 4, 8, 16, 32, 64, 128}[p%8] == 0 {
			return false
		}
	}
	return true
}

// pack returns a row of bits as bytes, the first bit the lowest one of the first byte.
func pack(row []bool) []byte {
	b := make([]byte, (len(row)+7)/8)
	for i, set := range row {
		if set {
			b[i/8] += 1 << (i % 8)
		}
	}
	return b
}

// filterOf returns a filter of size bytes and k, in which just these bits are 1.
func filterOf(size int, k byte, places ...int) []byte {
	row := make([]bool, 8*size)
	for _, p := range places {
		row[p] = true
	}
	return append(pack(row), k)
}

// numbered returns so many keys: the name with a number, from 0 on.
func numbered(name string, count int) []string {
	keys := make([]string, count)
	for i := range keys {
		keys[i] = name + strconv.Itoa(i)
	}
	return keys
}

// checkBuild asks for the filter of keys.
func checkBuild(t *testing.T, keys []string, per int, want []byte) {
	t.Helper()
	if f := bloom.Build(keys, per); !bytes.Equal(f, want) {
		t.Errorf("P5.1: Build(%.60q, %d): %d bytes, %.60x; want %d, %.60x", keys, per, len(f), f, len(want), want)
	}
}

// checkMay asks whether the key may be among those of the filter.
func checkMay(t *testing.T, promise string, filter []byte, key string, want bool) {
	t.Helper()
	if may := bloom.May(filter, key); may != want {
		t.Errorf("%s: May(%d bytes, %.40x, %.40q): %v", promise, len(filter), filter, key, may)
	}
}

// texts that meet in tests as keys: prefixes of each other, all bytes' ends, texts that are no UTF-8, and long ones.
var texts = []string{
	"", "\x00", "\x00\x00", "a", "b", "ab", "ba", "a\x00", "\x7f", "\x80", "é", "日本", "\xff", "\xff\xff", "\xc3", "foobar",
	strings.Repeat("k", 63), strings.Repeat("k", 64), strings.Repeat("k", 65), strings.Repeat("long", 1000),
}

// pers that are asked for: inside their range and outside.
var pers = slices.Concat([]int{math.MinInt, -1 << 40, -1 << 32, -100, -2, -1, 0}, numbersTo(30), []int{99, 255, 256, 257, 1 << 32, 1<<32 + 10, math.MaxInt})

// numbersTo returns the numbers from 1 to n.
func numbersTo(n int) []int {
	l := make([]int, n)
	for i := range l {
		l[i] = i + 1
	}
	return l
}
