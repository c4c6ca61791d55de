// Package crc32c is layer 1: see shared/doc/01-crc32c.md.
package crc32c

// nibbles has, for each value of four bits that are shifted out, what the four
// single shifts exclusive-or. Two lookups save the eight shifts of a byte, and
// the table is still short enough to be written out.
var nibbles = [16]uint32{
	0x00000000, 0x105ec76f, 0x20bd8ede, 0x30e349b1,
	0x417b1dbc, 0x5125dad3, 0x61c69362, 0x7198540d,
	0x82f63b78, 0x92a8fc17, 0xa24bb5a6, 0xb21572c9,
	0xc38d26c4, 0xd3d3e1ab, 0xe330a81a, 0xf36e6f75,
}

// matrix is a linear map of 32 bits to 32 bits: element i is the image of bit i.
type matrix [32]uint32

// Sum returns the checksum of b.
func Sum(b []byte) uint32 { return Extend(0, b) }

// Extend returns the checksum of bytes with the checksum c, followed by b.
func Extend(c uint32, b []byte) uint32 {
	r := ^c
	for _, x := range b {
		r = shiftByte(r ^ uint32(x))
	}
	return ^r
}

// Combine returns the checksum of two sequences of bytes, the second one with n bytes.
//
// Extending by zeros is linear but for the complements, which cancel out in the
// exclusive-or of two extensions: what is left is a, shifted by n bytes.
func Combine(a, b uint32, n int64) uint32 {
	if n < 0 {
		return 0
	}
	return shiftBytes(a, n) ^ b
}

// shiftByte shifts r by the eight bits of one byte.
func shiftByte(r uint32) uint32 {
	r = r>>4 ^ nibbles[r&15]
	return r>>4 ^ nibbles[r&15]
}

// shiftBytes shifts r by n bytes. The matrix is squared for each binary digit of
// n, so the steps grow with the number of digits and not with n.
func shiftBytes(r uint32, n int64) uint32 {
	power := byteMatrix()
	for n > 0 {
		if n&1 == 1 {
			r = apply(power, r)
		}
		power = product(power, power)
		n >>= 1
	}
	return r
}

// byteMatrix returns shiftByte as a matrix.
func byteMatrix() matrix {
	var m matrix
	for i := range m {
		m[i] = shiftByte(1 << i)
	}
	return m
}

// product returns the map that does q first and then p.
func product(p, q matrix) matrix {
	for i := range q {
		q[i] = apply(p, q[i])
	}
	return q
}

// apply returns the image of the bits of v.
func apply(m matrix, v uint32) uint32 {
	var image uint32
	for _, x := range m {
		if v&1 == 1 {
			image ^= x
		}
		v >>= 1
	}
	return image
}
