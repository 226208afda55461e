package frame_test

import (
	"bytes"
	"encoding/binary"
	"math"
	"math/bits"
	"strings"
	"testing"

	"convoy/frame"
)

// edgeNumbers has every power of two and both of its neighbours, with 0, 127, 128 and 2^64 - 1 among them.
func edgeNumbers() []uint64 {
	list := []uint64{0, 300, math.MaxUint64}
	for i := range 64 {
		p := uint64(1) << i
		list = append(list, p-1, p, p+1)
	}
	return list
}

// wantUint says by division, not by shifts, what the encoding of n is.
func wantUint(n uint64) []byte {
	var b []byte
	for ; n >= 128; n /= 128 {
		b = append(b, byte(128+n%128))
	}
	return append(b, byte(n))
}

// wantTakeUint reads a number with the library, and accepts it only in its shortest form.
func wantTakeUint(b []byte) (uint64, int) {
	n, size := binary.Uvarint(b)
	if size <= 0 || size != len(wantUint(n)) {
		return 0, 0
	}
	return n, size
}

func checkTakeUint(t *testing.T, promise string, b []byte, want uint64, wantSize int) {
	t.Helper()
	if n, size := frame.TakeUint(b); n != want || size != wantSize {
		t.Errorf("%s: TakeUint(%v): %d, %d; want %d, %d", promise, b, n, size, want, wantSize)
	}
}

func checkTakeText(t *testing.T, promise string, b []byte, want string, wantSize int) {
	t.Helper()
	if s, size := frame.TakeText(b); s != want || size != wantSize {
		t.Errorf("%s: TakeText(%.40v): %.40q, %d; want %.40q, %d", promise, b, s, size, want, wantSize)
	}
}

// P1.1: the encoding of a number, at the edges that the chapter names and at all others.
func TestUintEncodes(t *testing.T) {
	named := map[uint64][]byte{
		0:              {0},
		1:              {1},
		127:            {127},
		128:            {128, 1},
		300:            {172, 2},
		16383:          {255, 127},
		16384:          {128, 128, 1},
		1<<63 - 1:      {255, 255, 255, 255, 255, 255, 255, 255, 127},
		1 << 63:        {128, 128, 128, 128, 128, 128, 128, 128, 128, 1},
		math.MaxUint64: {255, 255, 255, 255, 255, 255, 255, 255, 255, 1},
	}
	for n, want := range named {
		if b := frame.Uint(n); !bytes.Equal(b, want) {
			t.Errorf("P1.1: Uint(%d): %v; want %v", n, b, want)
		}
	}
	for _, n := range edgeNumbers() {
		b := frame.Uint(n)
		if !bytes.Equal(b, wantUint(n)) {
			t.Errorf("P1.1: Uint(%d): %v; want %v", n, b, wantUint(n))
		}
		if size := max(1, (bits.Len64(n)+6)/7); len(b) != size {
			t.Errorf("P1.1: Uint(%d): %d bytes; want %d", n, len(b), size)
		}
	}
}

// P1.2: a number is read back, whatever follows it, and not from fewer bytes.
func TestUintReadBack(t *testing.T) {
	for _, n := range edgeNumbers() {
		b := frame.Uint(n)
		for _, rest := range [][]byte{nil, {0}, {1}, {127}, {128}, {255, 255}} {
			checkTakeUint(t, "P1.2", append(bytes.Clone(b), rest...), n, len(b))
		}
		for i := range b {
			checkTakeUint(t, "P1.2", b[:i], 0, 0)
		}
	}
}

// P1.1, P1.2: bytes that no number is encoded as.
func TestTakeUintRejects(t *testing.T) {
	nines := bytes.Repeat([]byte{255}, 9)
	zeros := bytes.Repeat([]byte{128}, 9)
	wrong := [][]byte{
		nil,
		{},
		{128},
		{255},
		{128, 128},
		{128, 0},
		{129, 0},
		{255, 0},
		{172, 130, 0},
		{128, 128, 0},
		nines,
		append(bytes.Clone(nines), 0),
		append(bytes.Clone(nines), 2),
		append(bytes.Clone(nines), 3),
		append(bytes.Clone(nines), 127),
		append(bytes.Clone(nines), 128),
		append(bytes.Clone(nines), 129),
		append(bytes.Clone(nines), 129, 0),
		append(bytes.Clone(nines), 255, 1),
		append(bytes.Clone(zeros), 0),
		append(bytes.Clone(zeros), 2),
		append(bytes.Clone(zeros), 128, 1),
		append(bytes.Clone(zeros), 129, 0),
		bytes.Repeat([]byte{255}, 100),
	}
	for _, b := range wrong {
		checkTakeUint(t, "P1.1", b, 0, 0)
	}
}

// P1.2: of all strings of up to two bytes, and of many longer ones, exactly the encodings are read.
func TestTakeUintReadsOnlyEncodings(t *testing.T) {
	check := func(b []byte) {
		want, size := wantTakeUint(b)
		checkTakeUint(t, "P1.2", b, want, size)
	}
	for x := range 256 {
		check([]byte{byte(x)})
		for y := range 256 {
			check([]byte{byte(x), byte(y)})
		}
	}
	odd := []byte{0, 1, 2, 127, 128, 129, 255}
	for size := 3; size <= 12; size++ {
		for _, first := range odd {
			for _, last := range odd {
				for _, behind := range odd {
					b := bytes.Repeat([]byte{128 | first}, size-2)
					check(append(b, last, behind))
				}
			}
		}
	}
}

// P1.1: the encoding of a text is its length and its bytes, whatever they are.
func TestTextEncodes(t *testing.T) {
	named := map[string][]byte{
		"":             {0},
		"ab":           {2, 'a', 'b'},
		"\x00":         {1, 0},
		"\xff\x80\x00": {3, 255, 128, 0},
		"ü":            {2, 0xc3, 0xbc},
	}
	for s, want := range named {
		if b := frame.Text(s); !bytes.Equal(b, want) {
			t.Errorf("P1.1: Text(%q): %v; want %v", s, b, want)
		}
	}
	for _, size := range []int{126, 127, 128, 129, 16383, 16384, 300000} {
		s := strings.Repeat("x", size)
		want := append(wantUint(uint64(size)), s...)
		if !bytes.Equal(frame.Text(s), want) {
			t.Errorf("P1.1: Text of %d bytes", size)
		}
	}
}

// P1.2: a text is read back, whatever follows it, and not from fewer bytes.
func TestTextReadBack(t *testing.T) {
	for _, s := range []string{"", "a", "ab", "\x00", "\xff\x80", strings.Repeat("y", 127), strings.Repeat("z", 128), strings.Repeat("\x80", 16384)} {
		b := frame.Text(s)
		for _, rest := range [][]byte{nil, {0}, {128}, {2, 'a', 'b'}} {
			checkTakeText(t, "P1.2", append(bytes.Clone(b), rest...), s, len(b))
		}
		for i := range b {
			checkTakeText(t, "P1.2", b[:i], "", 0)
		}
	}
}

// P1.1, P1.2: incomplete texts, and lengths that aren't encoded as numbers are, or that no int has.
func TestTakeTextRejects(t *testing.T) {
	wrong := [][]byte{
		nil,
		{1},
		{3, 'a', 'b'},
		{128},
		{128, 0},
		{129, 0, 'a'},
		{130, 0, 'a', 'b'},
		{255, 255, 255, 255, 255, 255, 255, 255, 255, 2, 'a'},
	}
	for _, n := range []uint64{128, 1 << 31, 1 << 32, 1 << 62, 1<<63 - 11, 1<<63 - 1, 1 << 63, 1<<63 + 1, 1<<64 - 11, 1<<64 - 10, 1<<64 - 9, 1<<64 - 1} {
		wrong = append(wrong, append(wantUint(n), "some bytes behind"...))
	}
	for _, b := range wrong {
		checkTakeText(t, "P1.1", b, "", 0)
	}
}
