package manifest_test

import (
	"bytes"
	"encoding/binary"
	"math"
	"math/rand"
	"slices"
	"strings"
	"testing"

	"convoy/api"
	"convoy/manifest"
)

// sameEdit tells whether two edits are.
func sameEdit(e, f api.Edit) bool {
	return slices.Equal(e.Add, f.Add) && slices.Equal(e.Drop, f.Drop) && e.Next == f.Next && e.Log == f.Log && e.Seq == f.Seq
}

// checkEncode asks for the payload of an edit.
func checkEncode(t *testing.T, e api.Edit, want string) {
	t.Helper()
	if b, code := manifest.Encode(e); code != api.OK || string(b) != want {
		t.Errorf("P8.1: Encode(%s): %s, %d; want %s", brief(e), brief(b), code, brief([]byte(want)))
	}
}

// checkNoPayload asks that an edit has no payload.
func checkNoPayload(t *testing.T, e api.Edit, want api.Errno) {
	t.Helper()
	if b, code := manifest.Encode(e); code != want || len(b) > 0 {
		t.Errorf("P8.1: Encode(%s): %s, %d; want %d", brief(e), brief(b), code, want)
	}
}

// checkDecode asks for the edit of a payload.
func checkDecode(t *testing.T, b string, want api.Edit) {
	t.Helper()
	if e, code := manifest.Decode([]byte(b)); code != api.OK || !sameEdit(e, want) {
		t.Errorf("P8.1: Decode(%s): %s, %d; want %s", brief([]byte(b)), brief(e), code, brief(want))
	}
}

// checkNoEdit asks that no edit has these bytes as its payload.
func checkNoEdit(t *testing.T, b string) {
	t.Helper()
	if e, code := manifest.Decode([]byte(b)); code != api.ErrManifest || e.Add != nil || e.Drop != nil || !sameEdit(e, api.Edit{}) {
		t.Errorf("P8.1: Decode(%s): %s, %d", brief([]byte(b)), brief(e), code)
	}
}

// sampleEdits are edits that have a payload, some of which fit no version.
func sampleEdits() []api.Edit {
	list := []api.Edit{
		{}, {Next: 1}, {Log: 1}, {Seq: 1}, {Next: 127, Log: 128, Seq: 16384}, {Next: 1 << 62, Log: 1 << 62, Seq: 1 << 62},
		drop(0), drop(1, 1, 300), drop(1 << 62), all(base), later,
		add(2, table(1, 0, "", "")), add(0, table(0, 9, "b", "a")), add(0, table(1<<62, 1<<62, key(127), key(128))),
		{Add: []api.Table{table(1, 0, "\x00\xff", "é"), table(1, 0, "", key(2000))}, Drop: []int{128, 127, 0}, Next: 5, Log: 6, Seq: 7},
	}
	many := api.Edit{}
	for n := range 200 {
		many.Drop = append(many.Drop, n)
		many.Add = append(many.Add, table(n, n%3, key(n%5), ""))
	}
	return append(list, many)
}

// P8.1: known payloads.
func TestEncode(t *testing.T) {
	checkEncode(t, api.Edit{}, "\x00\x00\x00\x00\x00")
	checkEncode(t, api.Edit{Next: 2, Log: 3, Seq: 4}, "\x00\x00\x02\x03\x04")
	checkEncode(t, api.Edit{Next: 300, Log: 128, Seq: 127}, "\x00\x00\xac\x02\x80\x01\x7f")
	checkEncode(t, drop(5, 300, 5), "\x00\x03\x05\xac\x02\x05\x00\x00\x00")
	checkEncode(t, add(2, table(1, 0, "a", "bc")), "\x01\x01\x00\x01a\x02bc\x00\x02\x00\x00")
	checkEncode(t, api.Edit{Add: []api.Table{table(129, 1, "", ""), table(0, 200, "z", "a")}, Drop: []int{9}, Log: 1}, "\x02\x81\x01\x01\x00\x00\x00\xc8\x01\x01z\x01a\x01\x09\x00\x01\x00")
	for _, e := range sampleEdits() {
		checkEncode(t, e, payload(e))
	}
}

// P8.1: Encode looks at no limit but that of the payload: also numbers that Decode does not accept are encoded.
func TestEncodeGreatNumbers(t *testing.T) {
	for _, n := range []int{1<<62 + 1, math.MaxInt} {
		for _, e := range []api.Edit{{Next: n}, {Log: n}, {Seq: n}, drop(n), drop(1, n), add(0, table(n, 0, "", "")), add(0, table(0, n, "", ""))} {
			checkEncode(t, e, payload(e))
			checkNoEdit(t, payload(e))
		}
	}
}

// P8.1: a negative number is ErrManifest, wherever it is, and ahead of ErrLong.
func TestEncodeNegative(t *testing.T) {
	long := make([]int, 5000)
	for _, n := range []int{-1, -300, math.MinInt} {
		one := table(1, 1, "a", "b")
		for _, e := range []api.Edit{
			{Next: n}, {Log: n}, {Seq: n}, drop(n), drop(1, n), drop(n, 1), drop(1, n, 1),
			add(0, table(n, 0, "", "")), add(0, table(0, n, "", "")), add(0, one, table(1, n, "", "")), add(0, table(n, 1, "", ""), one),
		} {
			checkNoPayload(t, e, api.ErrManifest)
			e.Drop = append(slices.Clone(e.Drop), long...)
			checkNoPayload(t, e, api.ErrManifest)
		}
	}
}

// P8.1: a payload has at most MaxPayload bytes, for Encode as for Decode.
func TestLongPayloads(t *testing.T) {
	for _, size := range []int{4095, 4096, 4097, 4098, 100000} {
		for _, e := range []api.Edit{
			drop(make([]int, size-6)...),
			add(0, table(1, 0, key(size-10), "")),
			add(0, table(1, 0, "a", key(size-11))),
			{Add: []api.Table{table(1, 0, key(size-12), "")}, Seq: 1 << 14},
		} {
			p := payload(e)
			if len(p) != size && size < 100000 {
				t.Fatalf("%d bytes; want %d", len(p), size)
			}
			if len(p) <= 4096 {
				checkEncode(t, e, p)
				checkDecode(t, p, e)
				continue
			}
			checkNoPayload(t, e, api.ErrLong)
			checkNoEdit(t, p)
		}
	}
}

// P8.1: the edit is read back; no other bytes are accepted: not fewer, not more, none that follow.
func TestDecode(t *testing.T) {
	for _, e := range sampleEdits() {
		p := payload(e)
		checkDecode(t, p, e)
		for size := range len(p) {
			checkNoEdit(t, p[:size])
		}
		for x := range 256 {
			checkNoEdit(t, p+string([]byte{byte(x)}))
		}
		checkNoEdit(t, p+p)
	}
	checkNoEdit(t, "")
}

// P8.1: a number above 2^62 is not valid, wherever it is, nor one that is not encoded as shortly as possible.
func TestDecodeNumbers(t *testing.T) {
	places := []string{"\x00\x00#\x00\x00", "\x00\x00\x00#\x00", "\x00\x00\x00\x00#", "\x00\x01#\x00\x00\x00", "\x00\x02\x07#\x00\x00\x00", "\x01#\x00\x00\x00\x00\x00\x00\x00", "\x01\x01#\x00\x00\x00\x00\x00\x00"}
	for _, place := range places {
		in := func(s string) string { return strings.Replace(place, "#", s, 1) }
		for _, n := range []uint64{0, 1, 127, 128, 1<<62 - 1, 1 << 62} {
			p := in(string(binary.AppendUvarint(nil, n)))
			if e, code := manifest.Decode([]byte(p)); code != api.OK || payload(e) != p {
				t.Errorf("P8.1: Decode(%v): %v, %d", []byte(p), e, code)
			}
		}
		for _, n := range []uint64{1<<62 + 1, 1<<63 - 1, 1 << 63, 1<<63 + 1, 1<<64 - 1} {
			checkNoEdit(t, in(string(binary.AppendUvarint(nil, n))))
		}
		for _, s := range []string{"", "\x80\x00", "\x81\x00", "\xff\x80\x00", "\xff\xff\xff\xff\xff\xff\xff\xff\xff\x02", "\xff\xff\xff\xff\xff\xff\xff\xff\xff\xff\x01"} {
			checkNoEdit(t, in(s))
		}
	}
}

// P8.1: counts and sizes that the bytes do not hold, be they as great as they may, are no payload's.
func TestDecodeCounts(t *testing.T) {
	for _, n := range []uint64{1, 2, 3, 4, 5, 6, 100, 4096, 1 << 20, 1 << 31, 1 << 40, 1 << 61, 1 << 62, 1<<62 + 1, 1<<63 - 1, 1 << 63, 1<<63 + 5, 1<<64 - 1} {
		count := string(binary.AppendUvarint(nil, n))
		if n != 2 {
			checkNoEdit(t, count+"\x00\x00\x00\x00\x00\x00\x00\x00\x00\x00\x00\x00")
		}
		checkNoEdit(t, count)
		checkNoEdit(t, count+"\x00\x00\x00\x00")
		checkNoEdit(t, "\x00"+count)
		checkNoEdit(t, "\x00"+count+"\x00\x00\x00")
		checkNoEdit(t, "\x01\x01\x01"+count)
		checkNoEdit(t, "\x01\x01\x01"+count+"\x00\x00\x00\x00\x00"[:min(4, n+3)])
		checkNoEdit(t, "\x01\x01\x01\x00"+count)
		checkNoEdit(t, strings.Repeat(count, 400))
	}
}

// P8.1: whatever the bytes are, Decode accepts them just if they are what Encode writes.
func TestDecodeAnyBytes(t *testing.T) {
	r := rand.New(rand.NewSource(8))
	accepted := 0
	check := func(b []byte) {
		e, code := manifest.Decode(b)
		if code == api.OK {
			accepted++
		}
		if again, _ := manifest.Encode(e); code == api.OK && !bytes.Equal(again, b) || code != api.OK && code != api.ErrManifest {
			t.Errorf("P8.1: Decode(%v): %v, %d", b, e, code)
		}
	}
	for range 200000 {
		b := make([]byte, r.Intn(14))
		for i := range b {
			b[i] = byte([]int{0, 0, 1, 1, 2, 3, r.Intn(256)}[r.Intn(7)])
		}
		check(b)
	}
	for _, e := range sampleEdits() {
		p := []byte(payload(e))
		for range 5000 {
			b := bytes.Clone(p)
			b[r.Intn(len(b))] ^= byte(1 << r.Intn(8))
			check(b)
		}
	}
	if accepted < 1000 {
		t.Errorf("only %d accepted", accepted)
	}
}
