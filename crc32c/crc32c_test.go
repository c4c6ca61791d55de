package crc32c_test

import (
	"bytes"
	"hash/crc32"
	"math"
	"math/rand"
	"testing"

	"needlestore/crc32c"
)

// period is the least number of zero bytes that changes no checksum when it is
// shifted through: the polynomial is x + 1 times a primitive one of degree 31.
const period = 1<<31 - 1

// extend is 1.1 and 1.2 word for word, bit by bit.
func extend(c uint32, b []byte) uint32 {
	r := ^c
	for _, x := range b {
		r ^= uint32(x)
		for range 8 {
			out := r & 1
			r >>= 1
			if out == 1 {
				r ^= 0x82f63b78
			}
		}
	}
	return ^r
}

// combine is 1.3 word for word, with a sequence of n bytes 0.
func combine(a, b uint32, n int) uint32 {
	z := make([]byte, n)
	return extend(a, z) ^ extend(0, z) ^ b
}

func randomBytes(r *rand.Rand, n int) []byte {
	b := make([]byte, n)
	for i := range b {
		b[i] = byte(r.Uint32())
	}
	return b
}

func flip(b []byte, bit int) { b[bit/8] ^= 1 << (bit % 8) }

// Promise 1.1.

func TestSumExamples(t *testing.T) {
	for _, c := range []struct {
		b    string
		want uint32
	}{
		{"", 0},
		{"123456789", 0xe3069283},
		{"a", 0xc1d04330},
		{"\x00", 0x527d5351},
		{"\xff", 0xff000000},
	} {
		if s := crc32c.Sum([]byte(c.b)); s != c.want {
			t.Errorf("Sum(%q) = %#x, want %#x", c.b, s, c.want)
		}
	}
	if s := crc32c.Sum(nil); s != 0 {
		t.Errorf("Sum(nil) = %#x", s)
	}
}

func TestSumOfEachByte(t *testing.T) {
	for x := range 256 {
		b := []byte{byte(x)}
		if s := crc32c.Sum(b); s != extend(0, b) {
			t.Errorf("Sum of byte %d = %#x, want %#x", x, s, extend(0, b))
		}
	}
}

func TestSumOfAllLengths(t *testing.T) {
	r := rand.New(rand.NewSource(1))
	castagnoli := crc32.MakeTable(crc32.Castagnoli)
	for n := range 600 {
		b := randomBytes(r, n)
		s := crc32c.Sum(b)
		if s != extend(0, b) || s != crc32.Checksum(b, castagnoli) {
			t.Fatalf("%d bytes: %#x, want %#x", n, s, extend(0, b))
		}
	}
}

func TestSumOfManyBytes(t *testing.T) {
	b := randomBytes(rand.New(rand.NewSource(2)), 1<<20)
	if s := crc32c.Sum(b); s != extend(0, b) {
		t.Errorf("%#x, want %#x", s, extend(0, b))
	}
}

// Promise 1.2.

func TestExtendFromAnyChecksum(t *testing.T) {
	r := rand.New(rand.NewSource(3))
	starts := []uint32{0, 1, 1 << 31, math.MaxUint32}
	for range 200 {
		starts = append(starts, r.Uint32())
	}
	for i, c := range starts {
		b := randomBytes(r, i%40)
		if s := crc32c.Extend(c, b); s != extend(c, b) {
			t.Errorf("Extend(%#x, %x) = %#x, want %#x", c, b, s, extend(c, b))
		}
	}
}

func TestExtendByNoBytes(t *testing.T) {
	for _, c := range []uint32{0, 1, 0x12345678, 1 << 31, math.MaxUint32} {
		if crc32c.Extend(c, nil) != c || crc32c.Extend(c, []byte{}) != c {
			t.Errorf("no bytes change %#x", c)
		}
	}
}

func TestExtendContinuesSum(t *testing.T) {
	b := randomBytes(rand.New(rand.NewSource(4)), 100)
	want := crc32c.Sum(b)
	if s := crc32c.Extend(0, b); s != want {
		t.Errorf("Extend(0, b) = %#x, want %#x", s, want)
	}
	for k := range len(b) + 1 {
		if s := crc32c.Extend(crc32c.Sum(b[:k]), b[k:]); s != want {
			t.Errorf("cut at %d: %#x, want %#x", k, s, want)
		}
	}
}

// Promise 1.3.

func TestCombineExample(t *testing.T) {
	a, b := crc32c.Sum([]byte("1234")), crc32c.Sum([]byte("56789"))
	if s := crc32c.Combine(a, b, 5); s != 0xe3069283 {
		t.Errorf("%#x", s)
	}
}

func TestCombineJoinsSums(t *testing.T) {
	b := randomBytes(rand.New(rand.NewSource(5)), 1000)
	want := crc32c.Sum(b)
	for k := range len(b) + 1 {
		s := crc32c.Combine(crc32c.Sum(b[:k]), crc32c.Sum(b[k:]), int64(len(b)-k))
		if s != want {
			t.Errorf("cut at %d: %#x, want %#x", k, s, want)
		}
	}
}

func TestCombineAnyNumbers(t *testing.T) {
	r := rand.New(rand.NewSource(6))
	for n := range 400 {
		a, b := r.Uint32(), r.Uint32()
		if s := crc32c.Combine(a, b, int64(n)); s != combine(a, b, n) {
			t.Errorf("Combine(%#x, %#x, %d) = %#x, want %#x", a, b, n, s, combine(a, b, n))
		}
	}
}

func TestCombineWithoutLength(t *testing.T) {
	for _, c := range [][2]uint32{{0, 0}, {5, 7}, {0, 7}, {5, 0}, {1 << 31, math.MaxUint32}} {
		if s := crc32c.Combine(c[0], c[1], 0); s != c[0]^c[1] {
			t.Errorf("Combine(%#x, %#x, 0) = %#x", c[0], c[1], s)
		}
	}
}

func TestCombineNegativeLength(t *testing.T) {
	for _, n := range []int64{-1, -2, -5, math.MinInt32, math.MinInt64 + 1, math.MinInt64} {
		for _, c := range [][2]uint32{{5, 7}, {0, 7}, {5, 0}, {math.MaxUint32, 1}} {
			if s := crc32c.Combine(c[0], c[1], n); s != 0 {
				t.Errorf("Combine(%#x, %#x, %d) = %#x, want 0", c[0], c[1], n, s)
			}
		}
	}
}

func TestCombineEachPowerOfTwo(t *testing.T) {
	r := rand.New(rand.NewSource(7))
	for k := range 62 {
		a, b := r.Uint32(), r.Uint32()
		half := int64(1) << k
		twice := crc32c.Combine(crc32c.Combine(a, 0, half), b, half)
		if s := crc32c.Combine(a, b, 2*half); s != twice {
			t.Errorf("Combine(%#x, %#x, 1<<%d) = %#x, want %#x", a, b, k+1, s, twice)
		}
	}
}

func TestCombineAddsLargeLengths(t *testing.T) {
	r := rand.New(rand.NewSource(8))
	for range 200 {
		a, b := r.Uint32(), r.Uint32()
		n, m := r.Int63()>>1, r.Int63()>>1
		want := crc32c.Combine(crc32c.Combine(a, 0, n), b, m)
		if s := crc32c.Combine(a, b, n+m); s != want {
			t.Errorf("Combine(%#x, %#x, %d+%d) = %#x, want %#x", a, b, n, m, s, want)
		}
	}
}

func TestCombinePeriod(t *testing.T) {
	r := rand.New(rand.NewSource(9))
	for n := range 100 {
		a, b := r.Uint32(), r.Uint32()
		want := combine(a, b, n)
		for _, many := range []int64{1, 3, 1 << 31, 1<<32 - 1} {
			if s := crc32c.Combine(a, b, many*period+int64(n)); s != want {
				t.Errorf("Combine(%#x, %#x, %d periods and %d) = %#x, want %#x", a, b, many, n, s, want)
			}
		}
	}
	// 2^31 leaves 1 when it is divided by the period, so 2^63 - 1 leaves 1 too.
	if s, want := crc32c.Combine(5, 7, math.MaxInt64), combine(5, 7, 1); s != want {
		t.Errorf("greatest length: %#x, want %#x", s, want)
	}
}

// A number of steps that grew with n would not come to an end here.
func TestCombineIsLogarithmic(t *testing.T) {
	for i := range uint32(2000) {
		if s := crc32c.Combine(0, i, math.MaxInt64-int64(i)); s != i {
			t.Fatalf("Combine(0, %d, ..) = %#x", i, s)
		}
	}
}

// Promise 1.4.

func TestEveryShortBurstIsNoticed(t *testing.T) {
	r := rand.New(rand.NewSource(10))
	for _, n := range []int{1, 2, 3, 4, 5, 8, 33} {
		b := randomBytes(r, n)
		for from := range 8 * n {
			for length := 1; length <= 32 && from+length <= 8*n; length++ {
				checkBurst(t, b, from, length, math.MaxUint32)
				checkBurst(t, b, from, length, 0)
				checkBurst(t, b, from, length, r.Uint32())
			}
		}
	}
}

// checkBurst changes the first and the last bit of a range, and those between
// them that inner names.
func checkBurst(t *testing.T, b []byte, from, length int, inner uint32) {
	t.Helper()
	changed := bytes.Clone(b)
	for i := range length {
		if i == 0 || i == length-1 || inner>>i&1 == 1 {
			flip(changed, from+i)
		}
	}
	if crc32c.Sum(changed) == crc32c.Sum(b) {
		t.Errorf("%d bytes: %d bits from %d on, pattern %#x: not noticed", len(b), length, from, inner)
	}
}

// The effects of changes add up, so no change of 32 bits goes unnoticed if the
// effects of the single bits are linearly independent: this covers all patterns.
func TestBitsOfAWindowAreIndependent(t *testing.T) {
	const n = 300
	b := randomBytes(rand.New(rand.NewSource(11)), n)
	effects := make([]uint32, 8*n)
	for i := range effects {
		flip(b, i)
		effects[i] = crc32c.Sum(b)
		flip(b, i)
		effects[i] ^= crc32c.Sum(b)
	}
	for from := range len(effects) - 31 {
		if k := rank(effects[from : from+32]); k != 32 {
			t.Errorf("from bit %d on: rank %d", from, k)
		}
	}
}

// rank counts the linearly independent numbers of l.
func rank(l []uint32) int {
	var base [32]uint32
	k := 0
	for _, v := range l {
		for i := 31; i >= 0 && v != 0; i-- {
			if v>>i&1 == 0 {
				continue
			}
			if base[i] == 0 {
				base[i] = v
				k++
				break
			}
			v ^= base[i]
		}
	}
	return k
}

func TestEffectsAddUp(t *testing.T) {
	r := rand.New(rand.NewSource(12))
	for n := range 100 {
		b, x, y := randomBytes(r, n), randomBytes(r, n), randomBytes(r, n)
		all := make([]byte, n)
		for i := range all {
			all[i] = b[i] ^ x[i] ^ y[i]
		}
		if crc32c.Sum(all) != crc32c.Sum(b)^crc32c.Sum(x)^crc32c.Sum(y) {
			t.Errorf("%d bytes: the effects of two changes do not add up", n)
		}
	}
}

// Rules R3 and R4.

func TestCallsLeaveNoTrace(t *testing.T) {
	b := randomBytes(rand.New(rand.NewSource(13)), 64)
	before := bytes.Clone(b)
	sum, more, both := crc32c.Sum(b), crc32c.Extend(5, b), crc32c.Combine(5, 7, 64)
	crc32c.Sum([]byte("other bytes"))
	crc32c.Combine(1, 2, 3)
	if crc32c.Sum(b) != sum || crc32c.Extend(5, b) != more || crc32c.Combine(5, 7, 64) != both {
		t.Error("a call depends on earlier calls")
	}
	if !bytes.Equal(b, before) {
		t.Error("a call changed its argument")
	}
}
