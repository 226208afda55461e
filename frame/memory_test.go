package frame_test

import (
	"bytes"
	"testing"

	"convoy/api"
	"convoy/frame"
)

// guarded returns the bytes with spare capacity behind them, and all of that memory.
func guarded(b []byte) (arg, memory []byte) {
	memory = append(bytes.Clone(b), "spare capacity"...)
	return memory[:len(b)], memory
}

// spoil overwrites a slice, and its spare capacity.
func spoil(b []byte) {
	for i := range b[:cap(b)] {
		b[:cap(b)][i] ^= 0x5a
	}
}

// checkBytesCall asks of a call from bytes to bytes that it leaves its argument alone, and that its result shares no memory with the argument, nor with the result of a second call.
func checkBytesCall(t *testing.T, name string, call func([]byte) []byte, in []byte) {
	t.Helper()
	arg, memory := guarded(in)
	before := bytes.Clone(memory)
	first := call(arg)
	want := bytes.Clone(first)
	second := call(arg)
	if !bytes.Equal(memory, before) {
		t.Fatalf("P1.4: %s of %d bytes has changed its argument", name, len(in))
	}
	spoil(first)
	if !bytes.Equal(memory, before) {
		t.Errorf("P1.4: %s of %d bytes: the result shares memory with the argument", name, len(in))
	}
	if !bytes.Equal(second, want) {
		t.Errorf("P1.4: %s of %d bytes: two results share memory", name, len(in))
	}
	copy(memory, before)
	spoil(memory)
	if !bytes.Equal(second, want) {
		t.Errorf("P1.4: %s of %d bytes: the result changes with the argument", name, len(in))
	}
	copy(memory, before)
	if !bytes.Equal(call(arg), want) {
		t.Errorf("P1.4: %s of %d bytes: a later result has changed", name, len(in))
	}
}

// P1.4: the calls that are given bytes.
func TestBytesAreNotShared(t *testing.T) {
	seal := func(b []byte) []byte { r, _ := frame.Seal(b); return r }
	take := func(b []byte) []byte { r, _, _ := frame.Take(b); return r }
	number := func(b []byte) []byte { n, size := frame.TakeUint(b); return []byte{byte(n), byte(size)} }
	text := func(b []byte) []byte { s, _ := frame.TakeText(b); return []byte(s) }
	sum := func(b []byte) []byte { n := frame.Sum(b); return []byte{byte(n), byte(n >> 24)} }
	for _, size := range []int{0, 1, 9, 127, 128, 4096, 4097} {
		p := samplePayload(size)
		checkBytesCall(t, "Seal", seal, p)
		checkBytesCall(t, "Sum", sum, p)
		checkBytesCall(t, "Take", take, p)
		checkBytesCall(t, "Take", take, wantFrame(p))
		checkBytesCall(t, "Take", take, join(wantFrame(p), p))
		checkBytesCall(t, "TakeText", text, append(wantUint(uint64(size)), p...))
		checkBytesCall(t, "TakeUint", number, append(wantUint(uint64(size)), p...))
	}
}

// P1.4: what TakeText returned stays, whatever is done to the bytes that it was read from.
func TestTextIsNewMemory(t *testing.T) {
	b := []byte{5, 'h', 'e', 'l', 'l', 'o'}
	s, _ := frame.TakeText(b)
	spoil(b)
	if s != "hello" {
		t.Errorf("P1.4: TakeText shares memory with its argument: %q", s)
	}
}

// checkNewMemory holds two results of a call at once: what is done to the first, and to its spare capacity, must not show in the second, nor in a third.
func checkNewMemory(t *testing.T, name string, call func() []byte, want []byte) {
	t.Helper()
	first, second := call(), call()
	spoil(first)
	if !bytes.Equal(second, want) {
		t.Errorf("P1.4: two results of %s share memory: %.30v", name, second)
	}
	if third := call(); !bytes.Equal(third, want) {
		t.Errorf("P1.4: a later result of %s has changed: %.30v", name, third)
	}
}

// P1.4: two results of Uint, or of Text, share nothing.
func TestEncodingsAreNewMemory(t *testing.T) {
	for _, n := range edgeNumbers() {
		checkNewMemory(t, "Uint", func() []byte { return frame.Uint(n) }, wantUint(n))
	}
	for _, size := range []int{0, 1, 9, 127, 128, 5000} {
		s := string(samplePayload(size))
		want := append(wantUint(uint64(size)), s...)
		checkNewMemory(t, "Text", func() []byte { return frame.Text(s) }, want)
	}
}

// P1.4: the payloads of a scan, and their list, share nothing with the argument, with each other, or with another scan.
func TestScannedPayloadsAreNewMemory(t *testing.T) {
	payloads := [][]byte{[]byte("one"), []byte("two"), {}, samplePayload(4096), []byte("five")}
	var in []byte
	for _, p := range payloads {
		in = append(in, wantFrame(p)...)
	}
	arg, memory := guarded(append(in, 7))
	before := bytes.Clone(memory)
	for i := range payloads {
		list, _ := frame.Scan(arg)
		other, _ := frame.Scan(arg)
		spoil(list[i])
		if !bytes.Equal(memory, before) {
			t.Fatalf("P1.4: the payload %d of a scan shares memory with the argument", i)
		}
		for k := range payloads {
			if k != i && !bytes.Equal(list[k], payloads[k]) {
				t.Errorf("P1.4: the payloads %d and %d of a scan share memory", i, k)
			}
			if !bytes.Equal(other[k], payloads[k]) {
				t.Errorf("P1.4: the payload %d of a scan shares memory with one of another scan", i)
			}
		}
	}
	list, n := frame.Scan(arg)
	other, _ := frame.Scan(arg)
	clear(list[:cap(list)])
	spoil(memory)
	checkScanned(t, other, payloads)
	if n != len(in) {
		t.Errorf("P1.1: Scan: %d; want %d", n, len(in))
	}
}

func checkScanned(t *testing.T, list, want [][]byte) {
	t.Helper()
	if len(list) != len(want) {
		t.Fatalf("P1.4: %d payloads; want %d", len(list), len(want))
	}
	for i := range want {
		if !bytes.Equal(list[i], want[i]) {
			t.Errorf("P1.4: the payload %d of a scan changes with the argument, or with another scan", i)
		}
	}
}

// P1.4, P8 (R8): a result depends on nothing that an earlier call was given, also when that one was rejected.
func TestNothingIsKept(t *testing.T) {
	good := wantFrame([]byte("good"))
	bad := bytes.Clone(good)
	bad[5] ^= 1
	for range 3 {
		checkNoFrame(t, "P1.4", bad)
		checkTake(t, "P1.4", good, []byte("good"), len(good))
		if b, e := frame.Seal(make([]byte, api.MaxPayload+1)); len(b) != 0 || e != api.ErrLong {
			t.Errorf("P1.4: Seal: %v, %d", b, e)
		}
		if b, e := frame.Seal([]byte("good")); !bytes.Equal(b, good) || e != api.OK {
			t.Errorf("P1.4: Seal: %v, %d", b, e)
		}
		if frame.Sum([]byte("123456789")) != 0xcbf43926 {
			t.Error("P1.4: Sum")
		}
	}
}
