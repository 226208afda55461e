package frame_test

import (
	"bytes"
	"encoding/binary"
	"hash/crc32"
	"math/rand"
	"slices"
	"testing"

	"convoy/api"
	"convoy/frame"
)

// sizes of payloads: the edges of the limit and of a length in one byte, and some between.
var sizes = []int{0, 1, 2, 3, 9, 126, 127, 128, 129, 1000, 4095, 4096}

// samplePayload has size bytes that look random, and are the same each time.
func samplePayload(size int) []byte {
	b := make([]byte, size)
	rand.New(rand.NewSource(int64(size))).Read(b)
	return b
}

// wantFrame makes a frame with the library's checksum, also of payloads that are too long for one.
func wantFrame(payload []byte) []byte {
	b := wantUint(uint64(len(payload)))
	b = binary.LittleEndian.AppendUint32(b, crc32.ChecksumIEEE(payload))
	return append(b, payload...)
}

// join lays bytes one behind the other in new memory.
func join(parts ...[]byte) []byte { return slices.Concat(parts...) }

func checkTake(t *testing.T, promise string, b, want []byte, size int) {
	t.Helper()
	p, n, e := frame.Take(b)
	if !bytes.Equal(p, want) || n != size || e != api.OK {
		t.Errorf("%s: Take(%.30v): %.30v, %d, %d; want %.30v, %d, OK", promise, b, p, n, e, want, size)
	}
}

func checkNoFrame(t *testing.T, promise string, b []byte) {
	t.Helper()
	if p, n, e := frame.Take(b); len(p) != 0 || n != 0 || e != api.ErrFrame {
		t.Errorf("%s: Take(%.30v): %.30v, %d, %d; want none, 0, ErrFrame", promise, b, p, n, e)
	}
}

func checkScan(t *testing.T, promise string, b []byte, want [][]byte, size int) {
	t.Helper()
	if l, n := frame.Scan(b); !slices.EqualFunc(l, want, bytes.Equal) || n != size {
		t.Errorf("%s: Scan(%.30v): %d payloads, %d; want %d, %d", promise, b, len(l), n, len(want), size)
	}
}

// P1.1: the checksum of known texts, of every byte, and of bytes of all lengths.
func TestSum(t *testing.T) {
	known := map[string]uint32{
		"":          0,
		"\x00":      0xd202ef8d,
		"\x00\x00":  0x41d912ff,
		"\xff":      0xff000000,
		"a":         0xe8b7be43,
		"123456789": 0xcbf43926,
		"The quick brown fox jumps over the lazy dog": 0x414fa339,
	}
	for s, want := range known {
		if sum := frame.Sum([]byte(s)); sum != want {
			t.Errorf("P1.1: Sum(%q): %08x; want %08x", s, sum, want)
		}
	}
	for x := range 256 {
		b := []byte{byte(x), byte(x), 1}
		if sum := frame.Sum(b); sum != crc32.ChecksumIEEE(b) {
			t.Errorf("P1.1: Sum(%v): %08x", b, sum)
		}
	}
	for size := range 300 {
		b := samplePayload(size)
		if sum := frame.Sum(b); sum != crc32.ChecksumIEEE(b) {
			t.Errorf("P1.1: Sum of %d bytes: %08x", size, sum)
		}
	}
	if b := samplePayload(100000); frame.Sum(b) != crc32.ChecksumIEEE(b) {
		t.Error("P1.1: Sum of 100000 bytes")
	}
}

// P1.1: a frame is the payload's length, its checksum with the lowest byte first, and the payload.
func TestSeal(t *testing.T) {
	named := map[string]string{
		"":          "\x00\x00\x00\x00\x00",
		"123456789": "\x09\x26\x39\xf4\xcb123456789",
	}
	for p, want := range named {
		if b, e := frame.Seal([]byte(p)); string(b) != want || e != api.OK {
			t.Errorf("P1.1: Seal(%q): %v, %d", p, b, e)
		}
	}
	for _, size := range sizes {
		p := samplePayload(size)
		if b, e := frame.Seal(p); !bytes.Equal(b, wantFrame(p)) || e != api.OK {
			t.Errorf("P1.1: Seal of %d bytes: %d bytes, %d", size, len(b), e)
		}
	}
}

// P1.1: a payload of more than MaxPayload bytes has no frame.
func TestSealTooLong(t *testing.T) {
	for _, size := range []int{4097, 4098, 8192, 1 << 20} {
		if b, e := frame.Seal(make([]byte, size)); len(b) != 0 || e != api.ErrLong {
			t.Errorf("P1.1: Seal of %d bytes: %d bytes, %d", size, len(b), e)
		}
	}
}

// P1.1, P1.2: a payload is read back, whatever follows its frame.
func TestTakeReadsBack(t *testing.T) {
	checkTake(t, "P1.1", make([]byte, 6), nil, 5)
	for _, size := range sizes {
		p := samplePayload(size)
		b, _ := frame.Seal(p)
		for _, rest := range [][]byte{nil, {0}, {128}, {255, 255, 255}, b} {
			checkTake(t, "P1.2", join(b, rest), p, len(b))
		}
	}
}

// P1.1, P1.2: no part of a frame is one, from its start up to any of its bytes, nor from a later byte on.
func TestTakeTruncated(t *testing.T) {
	checkNoFrame(t, "P1.1", nil)
	for _, size := range sizes {
		b, _ := frame.Seal(samplePayload(size))
		for i := range b {
			checkNoFrame(t, "P1.2", b[:i])
			checkNoFrame(t, "P1.2", b[:i:i])
		}
	}
	b, _ := frame.Seal([]byte("123456789"))
	for i := 1; i < len(b); i++ {
		checkNoFrame(t, "P1.2", b[i:])
	}
}

// P1.1, P1.2: what is almost a frame, but was not written by Seal.
func TestTakeRejectsOtherForms(t *testing.T) {
	b := wantFrame([]byte("ab"))
	swapped := join(b[:1], []byte{b[4], b[3], b[2], b[1]}, b[5:])
	inverted := join(b[:1], []byte{^b[1], ^b[2], ^b[3], ^b[4]}, b[5:])
	wrong := [][]byte{
		join([]byte{130, 0}, b[1:]),
		join([]byte{130, 128, 0}, b[1:]),
		join([]byte{128, 0}, make([]byte, 4)),
		join([]byte{3}, b[1:]),
		join([]byte{1}, b[1:]),
		join([]byte{0}, b[1:]),
		swapped,
		inverted,
		{0, 255, 255, 255, 255},
		{0, 0, 0, 0, 1},
	}
	for _, size := range []int{4097, 5000, 16384} {
		wrong = append(wrong, wantFrame(make([]byte, size)))
	}
	for _, size := range []uint64{1 << 31, 1<<63 - 15, 1<<63 - 1, 1 << 63, 1<<64 - 14, 1<<64 - 1} {
		wrong = append(wrong, join(wantUint(size), make([]byte, 100)))
	}
	for _, w := range wrong {
		checkNoFrame(t, "P1.2", w)
	}
}

// P1.2: frames one behind the other, cut at each of their bytes, are scanned up to the last complete one.
func TestScanTruncated(t *testing.T) {
	payloads := [][]byte{[]byte("one"), nil, samplePayload(200), {0}, nil, nil, []byte("123456789"), samplePayload(4096), []byte("end")}
	var b []byte
	ends := map[int]int{0: 0}
	for i, p := range payloads {
		b = append(b, wantFrame(p)...)
		ends[len(b)] = i + 1
	}
	whole, end := 0, 0
	for i := range len(b) + 1 {
		if n, ok := ends[i]; ok {
			whole, end = n, i
		}
		checkScan(t, "P1.2", b[:i], payloads[:whole], end)
	}
}

// P1.1: a scan ends ahead of the first bytes that aren't a frame, and takes up nothing behind them.
func TestScanStops(t *testing.T) {
	one, two := wantFrame([]byte("one")), wantFrame([]byte("two"))
	bad := bytes.Clone(one)
	bad[len(bad)-1] ^= 1
	first := [][]byte{[]byte("one")}
	checkScan(t, "P1.1", nil, nil, 0)
	checkScan(t, "P1.1", []byte{5}, nil, 0)
	checkScan(t, "P1.1", bad, nil, 0)
	checkScan(t, "P1.1", join(bad, two), nil, 0)
	checkScan(t, "P1.1", join([]byte{7}, one), nil, 0)
	checkScan(t, "P1.1", one, first, len(one))
	checkScan(t, "P1.1", join(one, bad, two), first, len(one))
	checkScan(t, "P1.1", join(one, []byte{200}, two), first, len(one))
	checkScan(t, "P1.1", join(one, wantFrame(make([]byte, 4097))), first, len(one))
	checkScan(t, "P1.1", join(one, two, []byte{5}), append(first, []byte("two")), len(one)+len(two))
	checkScan(t, "P1.1", make([]byte, 5*1000+4), make([][]byte, 1000), 5000)
}

// P1.2: of bytes at random, Take and Scan accept just what Seal writes.
func TestTakesOnlyWhatIsSealed(t *testing.T) {
	r := rand.New(rand.NewSource(1))
	for range 200000 {
		b := make([]byte, r.Intn(12))
		r.Read(b)
		if len(b) > 4 && r.Intn(2) == 0 { // mostly frames of few bytes
			b = join(wantFrame(b[:r.Intn(4)]), b)
			b[r.Intn(len(b))] ^= byte(1 << r.Intn(8))
		}
		p, n, e := frame.Take(b)
		if e == api.OK && !bytes.Equal(wantFrame(p), b[:n]) {
			t.Fatalf("P1.2: Take(%v): %v, %d", b, p, n)
		}
		var again []byte
		l, n := frame.Scan(b)
		for _, p := range l {
			again = append(again, wantFrame(p)...)
		}
		if !bytes.Equal(again, b[:n]) {
			t.Fatalf("P1.2: Scan(%v): %v, %d", b, l, n)
		}
	}
}
