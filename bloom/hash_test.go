package bloom_test

import (
	"math/rand"
	"testing"

	"convoy/bloom"
)

// P5.1: the hash of known keys.
func TestHash(t *testing.T) {
	known := map[string]uint32{
		"":         0x811c9dc5,
		"a":        0xe40c292c,
		"b":        0xe70c2de5,
		"ab":       0x4d2505ca,
		"\x00":     0x050c5d1f,
		"\x00\x00": 0x117697cd,
		"\xff":     0x7a0b824e,
		"foobar":   0xbf9cf968,
	}
	for key, want := range known {
		if h := bloom.Hash(key); h != want {
			t.Errorf("P5.1: Hash(%q): %08x; want %08x", key, h, want)
		}
	}
}

// P5.1: the hash takes a key byte by byte, whatever the bytes are, and all of them.
func TestHashOfAnyBytes(t *testing.T) {
	keys := append([]string{}, texts...)
	r := rand.New(rand.NewSource(5))
	for x := range 256 {
		b := make([]byte, r.Intn(200))
		r.Read(b)
		keys = append(keys, string([]byte{byte(x)}), string([]byte{'a', byte(x), 'b'}), string(b))
	}
	b := make([]byte, 1<<20)
	r.Read(b)
	for _, key := range append(keys, string(b)) {
		if h := bloom.Hash(key); h != wantHash(key) {
			t.Errorf("P5.1: Hash(%.40q): %08x; want %08x", key, h, wantHash(key))
		}
	}
}

// P5.1 (R8): the hash of a key hangs on nothing that was asked before.
func TestHashAgain(t *testing.T) {
	for range 3 {
		for _, key := range texts {
			if h := bloom.Hash(key); h != wantHash(key) {
				t.Errorf("P5.1: Hash(%.40q): %08x; want %08x", key, h, wantHash(key))
			}
		}
	}
}
