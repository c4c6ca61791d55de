package gf256_test

import (
	"bytes"
	"math"
	"math/big"
	"math/rand"
	"testing"

	"needlestore/api"
	"needlestore/gf256"
)

// extremes are exponents at the edges of what an exponent may be.
var extremes = []int64{
	math.MinInt64, math.MinInt64 + 1, math.MinInt64 + 254, math.MinInt64 + 255,
	math.MinInt32, -1 << 40, -511, -510, -256, -255, -254, -2, -1, 0, 1, 2, 7, 8, 9, 254, 255, 256, 510, 511,
	1 << 40, 255 << 40, math.MaxInt32, math.MaxInt64 - 255, math.MaxInt64 - 254, math.MaxInt64 - 1, math.MaxInt64,
}

// mul is 2.1 word for word: the product of the polynomials, then its remainder.
func mul(a, b byte) byte {
	product := 0
	for i := range 8 {
		for k := range 8 {
			if a>>i&1 == 1 && b>>k&1 == 1 {
				product ^= 1 << (i + k)
			}
		}
	}
	for k := 14; k >= 8; k-- {
		if product>>k&1 == 1 {
			product ^= 0x11d << (k - 8)
		}
	}
	return byte(product)
}

// inv searches for the element of 2.2.
func inv(a byte) byte {
	for x := range 256 {
		if mul(a, byte(x)) == 1 {
			return byte(x)
		}
	}
	return 0
}

// pow is 2.3 word for word, a factor for each 1 of |n| modulo 255: the product
// of 255 equal factors other than 0 is 1, which TestOrderOfEachElement checks.
func pow(a byte, n int64) byte {
	if n == 0 {
		return 1
	}
	if a == 0 {
		return 0
	}
	factor := a
	if n < 0 {
		factor = inv(a)
	}
	count := new(big.Int).Abs(big.NewInt(n))
	p := byte(1)
	for range count.Mod(count, big.NewInt(255)).Int64() {
		p = mul(p, factor)
	}
	return p
}

func randomBytes(r *rand.Rand, n int) []byte {
	b := make([]byte, n)
	for i := range b {
		b[i] = byte(r.Uint32())
	}
	return b
}

func eachPair(check func(a, b byte)) {
	for a := range 256 {
		for b := range 256 {
			check(byte(a), byte(b))
		}
	}
}

// Promise 2.1.

func TestAddOfAllPairs(t *testing.T) {
	eachPair(func(a, b byte) {
		if s := gf256.Add(a, b); s != a^b {
			t.Errorf("%d + %d = %d, want %d", a, b, s, a^b)
		}
	})
}

func TestMulOfAllPairs(t *testing.T) {
	eachPair(func(a, b byte) {
		if p := gf256.Mul(a, b); p != mul(a, b) {
			t.Errorf("%d * %d = %d, want %d", a, b, p, mul(a, b))
		}
	})
}

func TestMulExamples(t *testing.T) {
	for _, c := range [][3]byte{{128, 2, 29}, {2, 128, 29}, {0, 0, 0}, {0, 255, 0}, {255, 0, 0}, {1, 255, 255}, {3, 3, 5}, {2, 142, 1}} {
		if p := gf256.Mul(c[0], c[1]); p != c[2] {
			t.Errorf("%d * %d = %d, want %d", c[0], c[1], p, c[2])
		}
	}
}

// Promise 2.2.

func TestInvOfAllBytes(t *testing.T) {
	for a := 1; a < 256; a++ {
		x, e := gf256.Inv(byte(a))
		if e != api.OK || x != inv(byte(a)) || mul(byte(a), x) != 1 {
			t.Errorf("Inv(%d) = %d, %v, want %d", a, x, e, inv(byte(a)))
		}
	}
}

func TestInvOfZero(t *testing.T) {
	if x, e := gf256.Inv(0); x != 0 || e != api.ErrArg {
		t.Errorf("Inv(0) = %d, %v", x, e)
	}
}

func TestDivOfAllPairs(t *testing.T) {
	eachPair(func(a, b byte) {
		q, e := gf256.Div(a, b)
		switch {
		case b == 0 && (q != 0 || e != api.ErrArg):
			t.Errorf("%d / 0 = %d, %v", a, q, e)
		case b != 0 && (q != mul(a, inv(b)) || mul(q, b) != a || e != api.OK):
			t.Errorf("%d / %d = %d, %v, want %d", a, b, q, e, mul(a, inv(b)))
		}
	})
}

// Promise 2.3.

func TestExpExamples(t *testing.T) {
	for _, c := range []struct {
		n    int64
		want byte
	}{{0, 1}, {1, 2}, {7, 128}, {8, 29}, {254, 142}, {255, 1}, {256, 2}, {-1, 142}, {-255, 1}} {
		if x := gf256.Exp(c.n); x != c.want {
			t.Errorf("Exp(%d) = %d, want %d", c.n, x, c.want)
		}
	}
}

func TestExpStepByStep(t *testing.T) {
	up, down := byte(1), byte(1)
	for n := range int64(2000) {
		if x := gf256.Exp(n); x != up {
			t.Errorf("Exp(%d) = %d, want %d", n, x, up)
		}
		if x := gf256.Exp(-n); x != down {
			t.Errorf("Exp(%d) = %d, want %d", -n, x, down)
		}
		up, down = mul(up, 2), mul(down, 142)
	}
}

func TestExpOfExtremes(t *testing.T) {
	r := rand.New(rand.NewSource(1))
	exponents := extremes
	for range 300 {
		exponents = append(exponents, int64(r.Uint64()))
	}
	for _, n := range exponents {
		if x := gf256.Exp(n); x != pow(2, n) {
			t.Errorf("Exp(%d) = %d, want %d", n, x, pow(2, n))
		}
	}
}

func TestLogOfAllBytes(t *testing.T) {
	for n := range 255 {
		a := pow(2, int64(n))
		if l, e := gf256.Log(a); l != n || e != api.OK {
			t.Errorf("Log(%d) = %d, %v, want %d", a, l, e, n)
		}
	}
	for a := 1; a < 256; a++ {
		l, e := gf256.Log(byte(a))
		if e != api.OK || l < 0 || l > 254 || gf256.Exp(int64(l)) != byte(a) {
			t.Errorf("Log(%d) = %d, %v", a, l, e)
		}
	}
}

func TestLogOfZero(t *testing.T) {
	if l, e := gf256.Log(0); l != 0 || e != api.ErrArg {
		t.Errorf("Log(0) = %d, %v", l, e)
	}
}

func TestPowOfAllBytes(t *testing.T) {
	for a := range 256 {
		for _, n := range extremes {
			if p := gf256.Pow(byte(a), n); p != pow(byte(a), n) {
				t.Errorf("Pow(%d, %d) = %d, want %d", a, n, p, pow(byte(a), n))
			}
		}
	}
}

func TestPowFactorByFactor(t *testing.T) {
	for a := 1; a < 256; a++ {
		up, down := byte(1), byte(1)
		for n := range int64(260) {
			if p := gf256.Pow(byte(a), n); p != up {
				t.Errorf("Pow(%d, %d) = %d, want %d", a, n, p, up)
			}
			if p := gf256.Pow(byte(a), -n); p != down {
				t.Errorf("Pow(%d, %d) = %d, want %d", a, -n, p, down)
			}
			up, down = mul(up, byte(a)), mul(down, inv(byte(a)))
		}
	}
}

func TestPowOfZero(t *testing.T) {
	for _, n := range extremes {
		want := byte(0)
		if n == 0 {
			want = 1
		}
		if p := gf256.Pow(0, n); p != want {
			t.Errorf("Pow(0, %d) = %d, want %d", n, p, want)
		}
	}
}

// Promise 2.4.

func TestMulAddOfEachFactor(t *testing.T) {
	r := rand.New(rand.NewSource(2))
	src := make([]byte, 256)
	for i := range src {
		src[i] = byte(i)
	}
	for c := range 256 {
		checkMulAdd(t, randomBytes(r, 256), src, byte(c))
	}
}

func TestMulAddOfEachLength(t *testing.T) {
	r := rand.New(rand.NewSource(3))
	for n := range 70 {
		for _, c := range []byte{0, 1, 2, 29, 142, 255} {
			checkMulAdd(t, randomBytes(r, n), randomBytes(r, n), c)
		}
	}
	checkMulAdd(t, randomBytes(r, 1<<18), randomBytes(r, 1<<18), 200)
}

func checkMulAdd(t *testing.T, dst, src []byte, c byte) {
	t.Helper()
	want := make([]byte, len(dst))
	for i := range want {
		want[i] = dst[i] ^ mul(c, src[i])
	}
	out, e := gf256.MulAdd(dst, src, c)
	if e != api.OK || !bytes.Equal(out, want) {
		t.Errorf("%d bytes, factor %d: %v: a wrong sum", len(dst), c, e)
	}
}

func TestMulAddOfNothing(t *testing.T) {
	for _, dst := range [][]byte{nil, {}} {
		for _, src := range [][]byte{nil, {}} {
			for _, c := range []byte{0, 1, 255} {
				if out, e := gf256.MulAdd(dst, src, c); len(out) != 0 || e != api.OK {
					t.Errorf("factor %d: %v, %v", c, out, e)
				}
			}
		}
	}
}

func TestMulAddOfDifferentLengths(t *testing.T) {
	for n := range 6 {
		for m := range 6 {
			for _, c := range []byte{0, 1, 7} {
				out, e := gf256.MulAdd(make([]byte, n), make([]byte, m), c)
				if n != m && (len(out) != 0 || e != api.ErrArg) {
					t.Errorf("%d and %d bytes: %v, %v", n, m, out, e)
				}
			}
		}
	}
	if out, e := gf256.MulAdd(nil, []byte{0}, 0); len(out) != 0 || e != api.ErrArg {
		t.Errorf("nil and a byte: %v, %v", out, e)
	}
}

func TestMulAddReturnsASliceOfItsOwn(t *testing.T) {
	for _, c := range []byte{0, 1, 2, 255} {
		dst, src := []byte{1, 2, 3, 4, 5}, []byte{9, 0, 128, 255, 1}
		whole, part := bytes.Clone(dst), bytes.Clone(src)
		out, _ := gf256.MulAdd(dst[:4], src[:4], c)
		if !bytes.Equal(dst, whole) || !bytes.Equal(src, part) {
			t.Errorf("factor %d: an argument was changed: %v, %v", c, dst, src)
		}
		for i := range out {
			out[i] ^= 255
		}
		_ = append(out, 77)
		if !bytes.Equal(dst, whole) || !bytes.Equal(src, part) {
			t.Errorf("factor %d: the result shares memory with an argument", c)
		}
	}
}

func TestMulAddOfASliceAndItself(t *testing.T) {
	b := []byte{0, 1, 2, 128, 255}
	out, e := gf256.MulAdd(b, b, 1)
	if e != api.OK || !bytes.Equal(out, make([]byte, 5)) || !bytes.Equal(b, []byte{0, 1, 2, 128, 255}) {
		t.Errorf("b + b = %v, %v, with b = %v", out, e, b)
	}
}

// Promise 2.5.

func TestFieldLaws(t *testing.T) {
	var sum, product [256][256]byte
	eachPair(func(a, b byte) { sum[a][b], product[a][b] = gf256.Add(a, b), gf256.Mul(a, b) })
	eachPair(func(a, b byte) {
		if sum[a][b] != sum[b][a] || product[a][b] != product[b][a] {
			t.Fatalf("%d and %d do not commute", a, b)
		}
		for c := range 256 {
			if sum[sum[a][b]][c] != sum[a][sum[b][c]] || product[product[a][b]][c] != product[a][product[b][c]] {
				t.Fatalf("%d, %d, %d are not associative", a, b, c)
			}
			if product[a][sum[b][c]] != sum[product[a][b]][product[a][c]] {
				t.Fatalf("%d, %d, %d are not distributive", a, b, c)
			}
		}
		if a != 0 && b != 0 && product[a][b] == 0 {
			t.Fatalf("%d divides 0", a)
		}
	})
	for a := range 256 {
		if x := byte(a); sum[x][0] != x || sum[x][x] != 0 || product[x][1] != x || product[x][0] != 0 {
			t.Errorf("%d: 0 or 1 is not neutral", a)
		}
	}
}

func TestPowersOfTwoAreAllElements(t *testing.T) {
	exponents := map[byte]int64{}
	for n := range int64(255) {
		exponents[gf256.Exp(n)] = n
	}
	if _, zero := exponents[0]; zero || len(exponents) != 255 {
		t.Errorf("%d elements are powers of 2", len(exponents))
	}
	eachPair(func(a, b byte) {
		if a != 0 && b != 0 && gf256.Mul(a, b) != gf256.Exp(exponents[a]+exponents[b]) {
			t.Errorf("%d * %d is not the power with the sum of the exponents", a, b)
		}
	})
}

func TestOrderOfEachElement(t *testing.T) {
	for a := 1; a < 256; a++ {
		p := byte(1)
		for range 255 {
			p = gf256.Mul(p, byte(a))
		}
		if p != 1 {
			t.Errorf("the product of 255 factors %d is %d", a, p)
		}
	}
}

// Rule R3.

func TestCallsLeaveNoTrace(t *testing.T) {
	first, e := gf256.MulAdd([]byte{1, 2}, []byte{3, 4}, 5)
	kept := bytes.Clone(first)
	again, f := gf256.MulAdd([]byte{1, 2}, []byte{3, 4}, 5)
	gf256.MulAdd([]byte{9, 9}, []byte{8, 8}, 7)
	if e != f || !bytes.Equal(first, kept) || !bytes.Equal(again, kept) {
		t.Error("a call depends on, or changes the result of, an earlier call")
	}
}
