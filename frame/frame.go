// Package frame is layer 1: numbers, texts and frames as bytes: see shared/doc/01-frame.md.
package frame

import (
	"bytes"

	"convoy/api"
)

const (
	maxUint = 10 // bytes of the longest number: 64 bits, seven in each
	sumSize = 4  // bytes of a checksum in a frame
)

// sums holds, for each value of the checksum's lowest four bits, what they add when they are shifted out. A table for four bits, passed twice a byte, is a sixteenth of one for eight.
var sums = [16]uint32{
	0x00000000, 0x1db71064, 0x3b6e20c8, 0x26d930ac,
	0x76dc4190, 0x6b6b51f4, 0x4db26158, 0x5005713c,
	0xedb88320, 0xf00f9344, 0xd6d6a3e8, 0xcb61b38c,
	0x9b64c2b0, 0x86d3d2d4, 0xa00ae278, 0xbdbdf21c,
}

// Uint returns the encoding of a number.
func Uint(n uint64) []byte {
	var b []byte
	for n > 127 {
		b = append(b, byte(n)|128)
		n >>= 7
	}
	return append(b, byte(n))
}

// TakeUint returns the number with whose encoding b begins, and the length of that encoding; 0, 0 if there is none.
func TakeUint(b []byte) (uint64, int) {
	var n uint64
	for i := range min(len(b), maxUint) {
		if i == maxUint-1 && b[i] > 1 {
			return 0, 0 // only one of the 64 bits is left for the last byte
		}
		n |= uint64(b[i]&127) << (7 * i)
		if b[i] > 127 {
			continue
		}
		if b[i] == 0 && i > 0 {
			return 0, 0 // it would be shorter without this byte
		}
		return n, i + 1
	}
	return 0, 0
}

// Text returns the encoding of a text.
func Text(s string) []byte {
	return append(Uint(uint64(len(s))), s...)
}

// TakeText returns the text with whose encoding b begins, and the length of that encoding; the empty text and 0 if there is none.
func TakeText(b []byte) (string, int) {
	size, start := TakeUint(b)
	// Held against each other as uint64: the size may be greater than any int.
	if start == 0 || size > uint64(len(b)-start) {
		return "", 0
	}
	end := start + int(size)
	return string(b[start:end]), end
}

// Sum returns the checksum of bytes.
func Sum(b []byte) uint32 {
	sum := ^uint32(0)
	for _, x := range b {
		sum ^= uint32(x)
		for range 2 {
			sum = sum>>4 ^ sums[sum&15]
		}
	}
	return ^sum
}

// sumBytes returns a checksum as it stands in a frame.
func sumBytes(sum uint32) []byte {
	b := make([]byte, sumSize)
	for i := range b {
		b[i] = byte(sum >> (8 * i))
	}
	return b
}

// Seal returns the frame of a payload; ErrLong if the payload is too long for one.
func Seal(payload []byte) ([]byte, api.Errno) {
	if len(payload) > api.MaxPayload {
		return nil, api.ErrLong
	}
	b := append(Uint(uint64(len(payload))), sumBytes(Sum(payload))...)
	return append(b, payload...), api.OK
}

// Take returns the payload of the frame with which b begins, and the length of the frame; ErrFrame if there is none.
func Take(b []byte) ([]byte, int, api.Errno) {
	size, n := TakeUint(b)
	if n == 0 || size > api.MaxPayload {
		return nil, 0, api.ErrFrame
	}
	start := n + sumSize
	end := start + int(size)
	if end > len(b) {
		return nil, 0, api.ErrFrame
	}
	payload := b[start:end]
	if !bytes.Equal(b[n:start], sumBytes(Sum(payload))) {
		return nil, 0, api.ErrFrame
	}
	return bytes.Clone(payload), end, api.OK
}

// Scan returns the payloads of the longest prefix of b that consists of consecutive frames, and the length of that prefix.
func Scan(b []byte) ([][]byte, int) {
	var payloads [][]byte
	end := 0
	for {
		payload, n, e := Take(b[end:])
		if e != api.OK {
			return payloads, end
		}
		payloads = append(payloads, payload)
		end += n
	}
}
