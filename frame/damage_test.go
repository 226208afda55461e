package frame_test

import (
	"bytes"
	"math/rand"
	"testing"

	"convoy/api"
	"convoy/frame"
)

// damage replaces adjacent bytes of b from at on by their exclusive or with a change, asks for ErrFrame, and puts them back.
func damage(t *testing.T, b []byte, at int, change ...byte) {
	t.Helper()
	whole := bytes.Clone(b)
	for i, x := range change {
		b[at+i] ^= x
	}
	if p, n, e := frame.Take(b); len(p) != 0 || n != 0 || e != api.ErrFrame {
		t.Errorf("P1.3: a frame of %d bytes, changed at %d by %v: %.30v, %d, %d", len(b), at, change, p, n, e)
	}
	if l, n := frame.Scan(b); len(l) != 0 || n != 0 {
		t.Errorf("P1.3: Scan of a frame of %d bytes, changed at %d by %v: %d payloads, %d", len(b), at, change, len(l), n)
	}
	copy(b, whole)
}

// damageable returns a frame with a payload of so many bytes, and the places in it where a run of adjacent bytes may begin: all of it in the checksum, or all of it in the payload.
func damageable(size, run int) ([]byte, []int) {
	b := wantFrame(samplePayload(size))
	sum := len(b) - size - 4
	var places []int
	for at := sum; at+run <= sum+4; at++ {
		places = append(places, at)
	}
	for at := sum + 4; at+run <= len(b); at++ {
		places = append(places, at)
	}
	return b, places
}

// P1.3: each byte of the checksum and of the payload, replaced by each other byte.
func TestOneByteReplaced(t *testing.T) {
	for _, size := range []int{0, 1, 2, 9, 130} {
		b, places := damageable(size, 1)
		for _, at := range places {
			for x := 1; x < 256; x++ {
				damage(t, b, at, byte(x))
			}
		}
	}
}

// P1.3: two adjacent bytes, replaced in each way.
func TestTwoBytesReplaced(t *testing.T) {
	b, places := damageable(3, 2)
	for _, at := range places {
		for x := 1; x < 256; x++ {
			for y := 1; y < 256; y++ {
				damage(t, b, at, byte(x), byte(y))
			}
		}
	}
}

// P1.3: one to four adjacent bytes, replaced in many ways at every place of frames of all sizes.
func TestAdjacentBytesReplaced(t *testing.T) {
	r := rand.New(rand.NewSource(2))
	for run := 1; run <= 4; run++ {
		for _, size := range []int{0, 1, 2, 3, 4, 5, 40, 128, 500} {
			b, places := damageable(size, run)
			for _, at := range places {
				for range 40 {
					change := make([]byte, run)
					for i := range change {
						change[i] = byte(1 + r.Intn(255))
					}
					damage(t, b, at, change...)
				}
			}
		}
	}
}

// P1.3: the same in the longest frame, at its ends and at some places between.
func TestLongestFrameDamaged(t *testing.T) {
	for run := 1; run <= 4; run++ {
		b, places := damageable(api.MaxPayload, run)
		for i := 0; i < len(places); i += 97 {
			damage(t, b, places[i], bytes.Repeat([]byte{1}, run)...)
			damage(t, b, places[i], bytes.Repeat([]byte{255}, run)...)
		}
		damage(t, b, places[len(places)-1], bytes.Repeat([]byte{128}, run)...)
	}
}

// P1.3: the four bytes of the checksum, replaced by those of each payload that differs in one byte.
func TestOtherSums(t *testing.T) {
	payload := []byte("a payload")
	b := wantFrame(payload)
	for i := range payload {
		for x := 1; x < 256; x++ {
			other := bytes.Clone(payload)
			other[i] ^= byte(x)
			o := wantFrame(other)
			damage(t, b, 1, b[1]^o[1], b[2]^o[2], b[3]^o[3], b[4]^o[4])
		}
	}
}

// P1.3: four adjacent bytes of a payload in another order, which a plain sum of bytes would not notice.
func TestBytesSwapped(t *testing.T) {
	b := wantFrame([]byte("..1234.."))
	at := bytes.IndexByte(b[5:], '1') + 5
	for _, order := range []string{"2143", "4321", "3412", "2341", "4123"} {
		change := make([]byte, 4)
		for i := range change {
			change[i] = b[at+i] ^ order[i]
		}
		damage(t, b, at, change...)
	}
}
