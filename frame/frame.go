// Package frame is layer 1: numbers, texts and frames as bytes: see shared/doc/01-frame.md.
package frame

import (
	"bytes"

	"convoy/api"
)

const (
	maxUintBytes = 10 // of an encoded number: nine of seven bits and one for the topmost bit
	sumBytes     = 4  // of a checksum in a frame
)

// sums has the checksum of each half byte: one of whole bytes would be longer than a table at package level may be.
var sums = [16]uint32{
	0x00000000, 0x1db71064, 0x3b6e20c8, 0x26d930ac,
	0x76dc4190, 0x6b6b51f4, 0x4db26158, 0x5005713c,
	0xedb88320, 0xf00f9344, 0xd6d6a3e8, 0xcb61b38c,
	0x9b64c2b0, 0x86d3d2d4, 0xa00ae278, 0xbdbdf21c,
}

// Uint: the bytes of a number.
func Uint(n uint64) []byte {
	out := make([]byte, 0, maxUintBytes)
	for n >= 128 {
		out = append(out, byte(n)|128)
		n >>= 7
	}
	return append(out, byte(n))
}

// TakeUint: the number at the front.
func TakeUint(b []byte) (uint64, int) {
	var n uint64
	for i := range min(len(b), maxUintBytes) {
		c := b[i]
		// Only one bit is left for the tenth byte: more would not fit into 64.
		if i == maxUintBytes-1 && c > 1 {
			return 0, 0
		}
		n |= uint64(c&127) << (7 * i)
		if c >= 128 {
			continue
		}
		// A last byte of 0 adds nothing: the number has a shorter encoding.
		if c == 0 && i > 0 {
			return 0, 0
		}
		return n, i + 1
	}
	return 0, 0
}

// Text: the bytes of a text.
func Text(s string) []byte {
	return append(Uint(uint64(len(s))), s...)
}

// TakeText: the text at the front.
func TakeText(b []byte) (string, int) {
	size, n := TakeUint(b)
	// The sizes are compared unsigned: one of 2^63 or more has no int.
	if n == 0 || size > uint64(len(b)-n) {
		return "", 0
	}
	end := n + int(size)
	return string(b[n:end]), end
}

// Sum: the CRC-32.
func Sum(b []byte) uint32 {
	sum := ^uint32(0)
	for _, c := range b {
		sum ^= uint32(c)
		for range 2 { // the lower half byte, then the upper one
			sum = sum>>4 ^ sums[sum&15]
		}
	}
	return ^sum
}

// Seal: the frame of a payload.
func Seal(payload []byte) ([]byte, api.Errno) {
	if len(payload) > api.MaxPayload {
		return nil, api.ErrLong
	}
	out := Uint(uint64(len(payload)))
	sum := Sum(payload)
	for i := range sumBytes {
		out = append(out, byte(sum>>(8*i)))
	}
	return append(out, payload...), api.OK
}

// Take: the payload of the frame at the front.
func Take(b []byte) ([]byte, int, api.Errno) {
	size, n := TakeUint(b)
	if n == 0 || size > api.MaxPayload {
		return nil, 0, api.ErrFrame
	}
	start := n + sumBytes
	end := start + int(size)
	if end > len(b) {
		return nil, 0, api.ErrFrame
	}
	payload := b[start:end]
	if Sum(payload) != storedSum(b[n:start]) {
		return nil, 0, api.ErrFrame
	}
	return bytes.Clone(payload), end, api.OK
}

// storedSum: the checksum that a frame's bytes tell.
func storedSum(b []byte) uint32 {
	var sum uint32
	for i := range sumBytes {
		sum |= uint32(b[i]) << (8 * i)
	}
	return sum
}

// Scan: the payloads of the longest beginning that is frames.
func Scan(b []byte) ([][]byte, int) {
	var payloads [][]byte
	done := 0
	for {
		payload, n, e := Take(b[done:])
		if e != api.OK {
			return payloads, done
		}
		payloads = append(payloads, payload)
		done += n
	}
}
