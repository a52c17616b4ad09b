// Package crc is layer 1: CRC-32 checksums (shared/doc/01-crc.md).
package crc

import (
	"math/bits"

	"postroad/api"
)

const (
	polynomial = 0xedb88320
	allOnes    = 0xffffffff
	sumLen     = 4
)

// bitMap is a linear map of 32 bits: element i is what bit i alone becomes.
type bitMap [32]uint32

// More is the sum of bytes whose beginning has the sum n and whose rest is b.
func More(n uint32, b []byte) uint32 {
	adds := byteAdds()
	n ^= allOnes
	for _, x := range b {
		n = n>>8 ^ adds[byte(n)^x]
	}
	return n ^ allOnes
}

// Sum is the CRC-32 of b.
func Sum(b []byte) uint32 { return More(0, b) }

// Join is the sum of two lists of bytes behind one another, of their sums a
// and b and the length of the second.
func Join(a uint32, b uint32, long int) uint32 {
	if long < 0 {
		return a ^ b
	}
	// Whole bytes are counted, not steps: 8 times long may not fit an int.
	power := byteMap()
	for i := range bits.Len(uint(long)) {
		if long>>i&1 == 1 {
			a = apply(power, a)
		}
		power = square(power)
	}
	return a ^ b
}

// Wrap is b with its sum behind it, the least byte first.
func Wrap(b []byte) []byte {
	out := make([]byte, len(b)+sumLen)
	copy(out, b)
	n := Sum(b)
	for i := range sumLen {
		out[len(b)+i] = byte(n >> (8 * i))
	}
	return out
}

// Open is what was wrapped, or ErrForm if b is Wrap of nothing.
func Open(b []byte) ([]byte, api.Errno) {
	if len(b) < sumLen {
		return nil, api.ErrForm
	}
	long := len(b) - sumLen
	if Sum(b[:long]) != readSum(b[long:]) {
		return nil, api.ErrForm
	}
	out := make([]byte, long)
	copy(out, b)
	return out, api.OK
}

func readSum(b []byte) uint32 {
	n := uint32(0)
	for i := range sumLen {
		n |= uint32(b[i]) << (8 * i)
	}
	return n
}

func step(n uint32) uint32 {
	if n&1 == 1 {
		return n>>1 ^ polynomial
	}
	return n >> 1
}

func byteSteps(n uint32) uint32 {
	for range 8 {
		n = step(n)
	}
	return n
}

// byteAdds tells for each byte what eight steps make of it: the steps are
// linear, so the higher bits of a number can be shifted past it.
func byteAdds() [256]uint32 {
	var adds [256]uint32
	for i := range 256 {
		adds[i] = byteSteps(uint32(i))
	}
	return adds
}

func byteMap() bitMap {
	var m bitMap
	for i := range 32 {
		m[i] = byteSteps(1 << i)
	}
	return m
}

func apply(m bitMap, n uint32) uint32 {
	out := uint32(0)
	for i := range 32 {
		if n>>i&1 == 1 {
			out ^= m[i]
		}
	}
	return out
}

func square(m bitMap) bitMap {
	var out bitMap
	for i := range 32 {
		out[i] = apply(m, m[i])
	}
	return out
}
