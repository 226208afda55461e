package bloom_test

import (
	"bytes"
	"runtime"
	"slices"
	"strings"
	"testing"
	"unsafe"
	"weak"

	"convoy/bloom"
)

// P5.3: Build leaves the keys alone, those in the spare capacity included.
func TestKeysAreNotChanged(t *testing.T) {
	for _, count := range []int{0, 1, 20, 1<<16 - 1, 1 << 16, 1<<16 + 7} {
		memory := numbered("key", count+3)
		slices.Reverse(memory) // in no order
		before := slices.Clone(memory)
		for _, per := range []int{-1, 10, 99} {
			bloom.Build(memory[:count], per)
		}
		if !slices.Equal(memory, before) {
			t.Errorf("P5.3: Build has changed %d keys", count)
		}
	}
}

// P5.3: what is done to a filter, and to its spare capacity, shows neither in another filter of the same keys nor in a later one.
func TestFiltersAreNewMemory(t *testing.T) {
	for _, count := range []int{0, 1, 6, 7, 84, 1<<16 + 7} {
		keys := numbered("key", count)
		want := wantBuild(keys, 10)
		first, second := bloom.Build(keys, 10), bloom.Build(keys, 10)
		for i := range first[:cap(first)] {
			first[:cap(first)][i] ^= 0x5a
		}
		if !bytes.Equal(second, want) {
			t.Errorf("P5.3: two filters of %d keys share memory", count)
		}
		if !bytes.Equal(bloom.Build(keys, 10), want) {
			t.Errorf("P5.3: a later filter of %d keys has changed", count)
		}
	}
}

// P5.3: a filter stays as it is when its keys are overwritten.
func TestFilterIsNotOfTheKeys(t *testing.T) {
	keys := numbered("key", 40)
	want := wantBuild(keys, 10)
	f := bloom.Build(keys, 10)
	clear(keys)
	if !bytes.Equal(f, want) {
		t.Error("P5.3: a filter has changed with its keys")
	}
}

// P5.3 (R6): May leaves a filter alone, its spare capacity included, be it valid or not.
func TestFilterIsNotChanged(t *testing.T) {
	for _, f := range [][]byte{nil, {6}, {0, 0}, {0, 1}, bloom.Build(texts, 10), bloom.Build(texts, 24), make([]byte, 1<<20+1)} {
		memory := append(bytes.Clone(f), "spare capacity"...)
		before := bytes.Clone(memory)
		for _, key := range texts {
			bloom.May(memory[:len(f)], key)
		}
		if !bytes.Equal(memory, before) {
			t.Errorf("P5.3: May has changed a filter of %d bytes", len(f))
		}
	}
}

// P5.1 (R8): May hangs on the bytes that it is given now: neither on those that stood there before nor on what was asked of them.
func TestMayHangsOnItsArguments(t *testing.T) {
	f := filterOf(9, 6)
	for range 3 {
		for _, key := range texts {
			copy(f, wantBuild(nil, 10))
			checkMay(t, "P5.1", f, key, false)
			for _, p := range wantPlaces(key, 6, 72) {
				f[p/8] |= 1 << (p % 8)
			}
			f[9] = 6
			checkMay(t, "P5.1", f, key, true)
			clear(f)
			f[9] = 6
			checkMay(t, "P5.1", f, key, false)
		}
	}
}

// P5.3 (R6): no call keeps a key behind it.
func TestKeysAreNotKept(t *testing.T) {
	var f []byte
	calls := map[string]func(key string){
		"Hash":  func(key string) { bloom.Hash(key) },
		"Build": func(key string) { f = bloom.Build([]string{"a", key}, 10) },
		"May":   func(key string) { bloom.May(filterOf(8, 6), key) },
	}
	for name, call := range calls {
		key := strings.Repeat("k", 1<<16)
		text := weak.Make(unsafe.StringData(key))
		call(key)
		key = ""
		runtime.GC()
		if text.Value() != nil {
			t.Errorf("P5.3: %s keeps a key", name)
		}
	}
	runtime.KeepAlive(f)
}
