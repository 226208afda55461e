package sstable_test

import (
	"bytes"
	"encoding/binary"
	"math/rand"
	"slices"
	"strings"
	"testing"

	"convoy/api"
	"convoy/sstable"
)

// scannedEntries returns the entries of a table's blocks, as far as they can be read, block after block, up to the filter's offset.
func scannedEntries(b []byte) []api.Entry {
	if len(b) < 12 {
		return nil
	}
	end := int(binary.LittleEndian.Uint32(b[len(b)-12:]))
	var l []api.Entry
	for at := 0; at < end && end <= len(b); {
		size, n := binary.Uvarint(b[at:])
		if n < 1 || size > 4096 || at+n+4+int(size) > end {
			return nil
		}
		p := b[at+n+4 : at+n+4+int(size)]
		for len(p) > 0 {
			var e api.Entry
			var rest []byte
			if e, rest = scannedEntry(p); rest == nil {
				return nil
			}
			l, p = append(l, e), rest
		}
		at += n + 4 + int(size)
	}
	return l
}

// scannedEntry returns the entry at the front, and what is behind it; nil if there is none.
func scannedEntry(p []byte) (api.Entry, []byte) {
	k, n := binary.Uvarint(p)
	if n < 1 || k > uint64(len(p)-n) {
		return api.Entry{}, nil
	}
	e := api.Entry{Key: string(p[n : n+int(k)])}
	p = p[n+int(k):]
	seq, n := binary.Uvarint(p)
	if n < 1 || len(p) == n {
		return api.Entry{}, nil
	}
	e.Seq, e.Del = int(seq), p[n] == 1
	p = p[n+1:]
	v, n := binary.Uvarint(p)
	if n < 1 || v > uint64(len(p)-n) {
		return api.Entry{}, nil
	}
	e.Value = string(p[n : n+int(v)])
	return e, append([]byte{}, p[n+int(v):]...)
}

// isTable tells what the chapter does: whether some entries in their order have exactly these bytes.
func isTable(b []byte) ([]api.Entry, bool) {
	l := scannedEntries(b)
	if len(l) == 0 || len(l) > 84 {
		return nil, false
	}
	for i, e := range l {
		if len(e.Key) > 64 || len(e.Value) > 1024 || e.Seq < 1 || e.Seq > 1<<62 || e.Del && e.Value != "" {
			return nil, false
		}
		if i > 0 && (e.Key < l[i-1].Key || e.Key == l[i-1].Key && e.Seq >= l[i-1].Seq) {
			return nil, false
		}
	}
	return l, bytes.Equal(laidOut(l, 3).bytes(), b)
}

// checkExact asks whether Parse accepts just a table, and reports whether it did.
func checkExact(t *testing.T, b []byte) bool {
	t.Helper()
	l, ok := isTable(b)
	r, code := sstable.Parse(b)
	if ok != (code == api.OK) || ok != (r != nil) || !ok && code != api.ErrTable {
		t.Errorf("P6.1: Parse of %d bytes, %x: %d; a table: %v", len(b), b, code, ok)
	} else if ok && !slices.Equal(r.All(), l) {
		t.Errorf("P6.2: All: %.200v; want %.200v", r.All(), l)
	}
	return ok
}

// anyText returns a text of any bytes, up to a length; short ones meet.
func anyText(r *rand.Rand, most int) string {
	switch r.Intn(4) {
	case 0:
		return strings.Repeat("k", r.Intn(most+1))
	case 1:
		b := make([]byte, r.Intn(most+1))
		r.Read(b)
		return string(b)
	}
	return []string{"", "\x00", "a", "a\x00", "ab", "b", "\x7f", "\x80", "\xff", "\xff\xff"}[r.Intn(10)]
}

// anyEntries returns entries of a table.
func anyEntries(r *rand.Rand) []api.Entry {
	seqs := []int{1, 12, 200, 1 << 20, 1 << 62}
	most := seqs[r.Intn(len(seqs))]
	l := make([]api.Entry, 1+r.Intn(1+r.Intn(84)))
	for i := range l {
		l[i] = set(anyText(r, 64), 1+r.Intn(most), "")
		if l[i].Del = r.Intn(4) == 0; !l[i].Del {
			l[i].Value = anyText(r, []int{8, 200, 1024}[r.Intn(3)])
		}
	}
	slices.SortFunc(l, func(x, y api.Entry) int {
		if c := bytes.Compare([]byte(x.Key), []byte(y.Key)); c != 0 {
			return c
		}
		return y.Seq - x.Seq
	})
	return slices.CompactFunc(l, func(x, y api.Entry) bool { return x.Key == y.Key && x.Seq == y.Seq })
}

// P6.1, P6.2: tables of random entries have the model's bytes, and answer as it does.
func TestAgainstModel(t *testing.T) {
	r := rand.New(rand.NewSource(7))
	for range 1500 {
		l := anyEntries(r)
		b := built(t, l)
		if !bytes.Equal(b, laidOut(l, 3).bytes()) {
			t.Errorf("P6.1: Build(%.200v): %d bytes, %.60x", l, len(b), b)
		}
		m := parsed(t, b)
		checkRead(t, "P6.2", m, l)
		for range 20 {
			key, seq := anyText(r, 64), 1+r.Intn(300)
			checkGet(t, m, key, seq, wantGet(l, key, seq))
			checkSeq(t, "P6.1", m.From(key), wantFrom(l, key))
		}
		if t.Failed() {
			return
		}
	}
}

// P6.1: random entries, in order or not, are rejected as the chapter tells.
func TestBuildAgainstModel(t *testing.T) {
	r := rand.New(rand.NewSource(8))
	var counts [100]int
	for range 20000 {
		l := anyEntries(r)
		for range r.Intn(3) {
			i, j := r.Intn(len(l)), r.Intn(len(l))
			switch r.Intn(4) {
			case 0:
				l[i], l[j] = l[j], l[i]
			case 1:
				l[i] = wrong[r.Intn(len(wrong))].e
			case 2:
				l = slices.Insert(l, i, l[j])
			}
		}
		want := wantBuild(l)
		counts[want]++
		checkBuild(t, l, want)
	}
	for _, code := range []api.Errno{api.OK, api.ErrLong, api.ErrRange, api.ErrOrder} {
		if counts[code] < 500 {
			t.Errorf("of 20000 lists %d have the error %d: the test is too narrow", counts[code], code)
		}
	}
}

// wantBuild tells which error the chapter names for entries.
func wantBuild(l []api.Entry) api.Errno {
	if len(l) > 84 {
		return api.ErrFull
	}
	for i, e := range l {
		if len(e.Key) > 64 || len(e.Value) > 1024 {
			return api.ErrLong
		}
		if e.Seq <= 0 || e.Seq > 4611686018427387904 || e.Del && len(e.Value) > 0 {
			return api.ErrRange
		}
		if i == 0 {
			continue
		}
		if c := strings.Compare(l[i-1].Key, e.Key); c > 0 || c == 0 && l[i-1].Seq <= e.Seq {
			return api.ErrOrder
		}
	}
	return api.OK
}

// P6.1: of random bytes, and of tables that were changed at random, just tables are accepted.
func TestParseAgainstModel(t *testing.T) {
	r := rand.New(rand.NewSource(9))
	for range 3000 {
		l := anyEntries(r)
		b := laidOut(l, 1+r.Intn(5)).bytes()
		for range r.Intn(3) {
			i := r.Intn(len(b))
			switch r.Intn(5) {
			case 0:
				b[i] = byte(r.Intn(256))
			case 1:
				b = slices.Delete(b, i, i+1)
			case 2:
				b = slices.Insert(b, i, byte(r.Intn(256)))
			case 3:
				if other := resealed(b, i, byte(1+r.Intn(255))); other != nil {
					b = other
				}
			case 4:
				b = b[:i+1]
			}
		}
		checkExact(t, b)
		if t.Failed() {
			return
		}
	}
}
