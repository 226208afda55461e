package sstable_test

import (
	"bytes"
	"runtime"
	"slices"
	"strings"
	"testing"
	"unsafe"
	"weak"

	"convoy/api"
	"convoy/sstable"
)

// P6.4: Build leaves the entries alone, those in the spare capacity included, be they a table's or not.
func TestEntriesAreNotChanged(t *testing.T) {
	back := slices.Clone(sorted)
	slices.Reverse(back)
	for _, l := range append(samples(), nil, back, numbered(85), []api.Entry{wrong[0].e}) {
		memory := append(slices.Clone(l), sorted[:5]...)
		before := slices.Clone(memory)
		sstable.Build(memory[:len(l)])
		if !slices.Equal(memory, before) {
			t.Errorf("P6.4: Build has changed %.100v", l)
		}
	}
}

// P6.4: Parse leaves the bytes alone, those in the spare capacity included, be they a table or not.
func TestBytesAreNotChanged(t *testing.T) {
	for _, l := range samples() {
		b := built(t, l)
		for size := range min(len(b)+1, 2000) {
			memory := slices.Concat(b[size:], []byte("spare capacity"))
			before := bytes.Clone(memory)
			sstable.Parse(memory[:len(b)-size])
			if !bytes.Equal(memory, before) {
				t.Fatalf("P6.4: Parse has changed %d bytes", len(b)-size)
			}
		}
	}
}

// P6.4: what is done to a table's bytes, and to their spare capacity, shows neither in another Build's bytes nor in a reader.
func TestBytesAreNewMemory(t *testing.T) {
	for _, l := range samples() {
		first, second := built(t, l), built(t, l)
		want := bytes.Clone(first)
		r := parsed(t, first)
		for i := range first[:cap(first)] {
			first[:cap(first)][i] ^= 0x5a
		}
		if !bytes.Equal(second, want) || !bytes.Equal(built(t, l), want) {
			t.Errorf("P6.4: two tables of %.100v share memory", l)
		}
		checkRead(t, "P6.4", r, l)
	}
}

// P6.4: what is done to entries that were built shows not in the bytes.
func TestBytesAreNotOfTheEntries(t *testing.T) {
	l := slices.Clone(sorted)
	b := built(t, l)
	clear(l)
	checkRead(t, "P6.4", parsed(t, b), sorted)
}

// P6.4: a list of All is new memory: neither the reader nor another list changes with it.
func TestListsAreNewMemory(t *testing.T) {
	for _, l := range samples() {
		r := read(t, l)
		first, second := r.All(), r.All()
		clear(first[:cap(first)])
		if !slices.Equal(second, l) {
			t.Errorf("P6.4: a list has changed to %.200v", second)
		}
		checkRead(t, "P6.4", r, l)
	}
}

// forgotten runs calls with a long text, and asks that nothing of it is kept behind them.
func forgotten(t *testing.T, what string, calls func(long string) any) {
	t.Helper()
	long := strings.Repeat("k", 1<<16)
	text := weak.Make(unsafe.StringData(long))
	result := calls(long)
	long = ""
	runtime.GC()
	if text.Value() != nil {
		t.Errorf("P6.4: %s keeps what it was given", what)
	}
	runtime.KeepAlive(result)
}

// P6.4: no call keeps the texts that it was given, nor the longer ones that they were cut out of.
func TestTextsAreNotKept(t *testing.T) {
	r := read(t, sorted)
	forgotten(t, "Build", func(long string) any {
		return built(t, []api.Entry{set(long[1:20], 1, long[:30]), set(long[1:30], 1, "")})
	})
	forgotten(t, "Get", func(long string) any { e, _ := r.Get(long[1:20], 1); return e })
	forgotten(t, "From", func(long string) any { return r.From(long[1:20]) })
	forgotten(t, "From", func(long string) any { return read(t, longest(84)).From(long) })
	runtime.KeepAlive(r)
}

// P6.4: a reader does not keep the bytes that it was parsed from.
func TestBytesAreNotKept(t *testing.T) {
	b := built(t, longest(84))
	first := weak.Make(&b[0])
	r := parsed(t, b)
	b = nil
	runtime.GC()
	if first.Value() != nil {
		t.Error("P6.4: Parse keeps the bytes that it was given")
	}
	checkRead(t, "P6.4", r, longest(84))
}
