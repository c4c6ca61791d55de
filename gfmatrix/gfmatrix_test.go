package gfmatrix_test

import (
	"bytes"
	"math"
	"math/bits"
	"math/rand"
	"slices"
	"testing"

	"needlestore/api"
	"needlestore/gf256"
	"needlestore/gfmatrix"
)

// most is the greatest size, written out so that a changed constant is noticed.
const most = 16

// wrong are numbers of rows, columns or elements that no matrix has. Some of
// their products are small numbers when they overflow.
var wrong = []int{
	math.MinInt, math.MinInt + 1, math.MinInt32, -1 << 40, -1 << 32, -17, -16, -4, -2, -1,
	0, 17, 18, 255, 256, 257, math.MaxInt32, 1 << 32, 1 << 40, 1 << 62, math.MaxInt - 1, math.MaxInt,
}

func matrix(rows, cols int, e ...byte) gfmatrix.Matrix {
	return gfmatrix.Matrix{Rows: rows, Cols: cols, E: e}
}

func identity(n int) gfmatrix.Matrix {
	m := matrix(n, n, make([]byte, n*n)...)
	for i := range n {
		m.E[i*n+i] = 1
	}
	return m
}

func randomBytes(r *rand.Rand, n int) []byte {
	b := make([]byte, n)
	for i := range b {
		b[i] = byte(r.Uint32())
	}
	return b
}

func random(r *rand.Rand, rows, cols int) gfmatrix.Matrix {
	return matrix(rows, cols, randomBytes(r, rows*cols)...)
}

func clone(m gfmatrix.Matrix) gfmatrix.Matrix {
	return matrix(m.Rows, m.Cols, bytes.Clone(m.E)...)
}

func same(a, b gfmatrix.Matrix) bool {
	return a.Rows == b.Rows && a.Cols == b.Cols && bytes.Equal(a.E, b.E)
}

// checkError checks that a call returned an error, and the zero value with it.
func checkError(t *testing.T, what string, m gfmatrix.Matrix, e, want api.Errno) {
	t.Helper()
	if e != want || !same(m, gfmatrix.Matrix{}) {
		t.Errorf("%s: %v, error %d, want error %d and no matrix", what, m, e, want)
	}
}

func eachSize(check func(rows, cols int)) {
	for rows := 1; rows <= most; rows++ {
		for cols := 1; cols <= most; cols++ {
			check(rows, cols)
		}
	}
}

// notValid are matrices that are not valid, each for one reason.
func notValid() []gfmatrix.Matrix {
	return []gfmatrix.Matrix{
		{},
		matrix(1, 1),
		matrix(1, 1, 1, 2),
		matrix(2, 2, 1, 0, 0),
		matrix(2, 2, 1, 0, 0, 1, 0),
		matrix(0, 1), matrix(1, 0),
		matrix(-1, -1, 1), matrix(-2, -2, 1, 0, 0, 1),
		matrix(17, 1, make([]byte, 17)...), matrix(1, 17, make([]byte, 17)...),
		matrix(17, 17, make([]byte, 289)...),
		matrix(1<<32, 1<<32), matrix(1<<62, 4), matrix(4, 1<<62),
		matrix(math.MaxInt, math.MaxInt, 1), matrix(math.MinInt, math.MinInt), matrix(math.MinInt, 2),
	}
}

// Promise 3.1.

func TestMaxSize(t *testing.T) {
	if gfmatrix.MaxSize != most {
		t.Errorf("MaxSize = %d", gfmatrix.MaxSize)
	}
}

func TestValidAtEachSize(t *testing.T) {
	eachSize(func(rows, cols int) {
		for n := range rows*cols + 3 {
			if v := gfmatrix.Valid(matrix(rows, cols, make([]byte, n)...)); v != (n == rows*cols) {
				t.Errorf("%d x %d with %d elements: %v", rows, cols, n, v)
			}
		}
	})
}

func TestNotValidWithAWrongSize(t *testing.T) {
	sizes := append([]int{1, 2, 15, 16}, wrong...)
	for _, size := range wrong {
		for _, other := range sizes {
			lengths := []int{0, 1, 2, 15, 16, 17, 32}
			if n := size * other; n >= 0 && n <= 1<<20 {
				lengths = append(lengths, n)
			}
			for _, n := range lengths {
				e := make([]byte, n)
				if gfmatrix.Valid(matrix(size, other, e...)) || gfmatrix.Valid(matrix(other, size, e...)) {
					t.Errorf("%d and %d with %d elements: valid", size, other, n)
				}
			}
		}
	}
	for i, m := range notValid() {
		if gfmatrix.Valid(m) {
			t.Errorf("matrix %d is valid", i)
		}
	}
}

// The elements do not matter, nor does room behind them.
func TestValidWithAnyElements(t *testing.T) {
	e := bytes.Repeat([]byte{255}, 20)
	if !gfmatrix.Valid(matrix(4, 4, e[:16]...)) || !gfmatrix.Valid(gfmatrix.Matrix{Rows: 4, Cols: 4, E: e[:16]}) {
		t.Error("a matrix of bytes 255 is not valid")
	}
}

func TestIdentityAtEachSize(t *testing.T) {
	for n := 1; n <= most; n++ {
		m, e := gfmatrix.Identity(n)
		if e != api.OK || !gfmatrix.Valid(m) || !same(m, identity(n)) {
			t.Errorf("Identity(%d) = %v, %d", n, m, e)
		}
	}
}

func TestIdentityWithAWrongSize(t *testing.T) {
	for _, n := range wrong {
		m, e := gfmatrix.Identity(n)
		checkError(t, "Identity", m, e, api.ErrArg)
	}
}

func TestVandermondeAtEachSize(t *testing.T) {
	eachSize(func(rows, cols int) {
		m, e := gfmatrix.Vandermonde(rows, cols)
		if e != api.OK || m.Rows != rows || m.Cols != cols || len(m.E) != rows*cols {
			t.Fatalf("Vandermonde(%d, %d) = %v, %d", rows, cols, m, e)
		}
		for i := range rows {
			for k := range cols {
				if x := m.E[i*cols+k]; x != gf256.Pow(byte(i), int64(k)) {
					t.Errorf("Vandermonde(%d, %d): %d at %d, %d", rows, cols, x, i, k)
				}
			}
		}
	})
}

func TestVandermondeExamples(t *testing.T) {
	if m, e := gfmatrix.Vandermonde(3, 2); e != api.OK || !same(m, matrix(3, 2, 1, 0, 1, 1, 1, 2)) {
		t.Errorf("%v, %d", m, e)
	}
	if m, e := gfmatrix.Vandermonde(4, 3); e != api.OK || !same(m, matrix(4, 3, 1, 0, 0, 1, 1, 1, 1, 2, 4, 1, 3, 5)) {
		t.Errorf("%v, %d", m, e)
	}
}

func TestVandermondeWithAWrongSize(t *testing.T) {
	for _, n := range wrong {
		for _, other := range append([]int{1, 2, 15, 16}, wrong...) {
			m, e := gfmatrix.Vandermonde(n, other)
			checkError(t, "Vandermonde", m, e, api.ErrArg)
			m, e = gfmatrix.Vandermonde(other, n)
			checkError(t, "Vandermonde", m, e, api.ErrArg)
		}
	}
}

// Promise 3.2, Mul.

// product is 3.2 word for word.
func product(a, b gfmatrix.Matrix) gfmatrix.Matrix {
	m := matrix(a.Rows, b.Cols, make([]byte, a.Rows*b.Cols)...)
	for i := range a.Rows {
		for k := range b.Cols {
			for j := range a.Cols {
				m.E[i*b.Cols+k] ^= gf256.Mul(a.E[i*a.Cols+j], b.E[j*b.Cols+k])
			}
		}
	}
	return m
}

func TestMulOfEachShape(t *testing.T) {
	r := rand.New(rand.NewSource(1))
	eachSize(func(rows, cols int) {
		for inner := 1; inner <= most; inner++ {
			a, b := random(r, rows, inner), random(r, inner, cols)
			m, e := gfmatrix.Mul(a, b)
			if e != api.OK || !same(m, product(a, b)) {
				t.Errorf("%d x %d times %d x %d: a wrong product, error %d", rows, inner, inner, cols, e)
			}
		}
	})
}

func TestMulExamples(t *testing.T) {
	a, b := matrix(2, 3, 1, 2, 3, 0, 1, 128), matrix(3, 1, 1, 1, 2)
	if m, e := gfmatrix.Mul(a, b); e != api.OK || !same(m, matrix(2, 1, 1^2^6, 1^29)) {
		t.Errorf("%v, %d", m, e)
	}
	c, d := matrix(2, 2, 0, 1, 1, 0), matrix(2, 2, 1, 2, 3, 4)
	if m, e := gfmatrix.Mul(c, d); e != api.OK || !same(m, matrix(2, 2, 3, 4, 1, 2)) {
		t.Errorf("%v, %d: the rows are not exchanged", m, e)
	}
	if m, e := gfmatrix.Mul(d, c); e != api.OK || !same(m, matrix(2, 2, 2, 1, 4, 3)) {
		t.Errorf("%v, %d: the columns are not exchanged", m, e)
	}
}

func TestMulByTheIdentity(t *testing.T) {
	r := rand.New(rand.NewSource(2))
	eachSize(func(rows, cols int) {
		m := random(r, rows, cols)
		left, e := gfmatrix.Mul(identity(rows), m)
		right, f := gfmatrix.Mul(m, identity(cols))
		if e != api.OK || f != api.OK || !same(left, m) || !same(right, m) {
			t.Errorf("%d x %d: the identity is not neutral", rows, cols)
		}
	})
}

func TestMulOfMatricesThatDoNotFit(t *testing.T) {
	r := rand.New(rand.NewSource(3))
	eachSize(func(cols, rows int) {
		if cols != rows {
			m, e := gfmatrix.Mul(random(r, rows, cols), random(r, rows, cols))
			checkError(t, "Mul", m, e, api.ErrArg)
		}
	})
	// The outer numbers fit here, but the inner ones do not.
	m, e := gfmatrix.Mul(random(r, 2, 3), random(r, 4, 2))
	checkError(t, "Mul", m, e, api.ErrArg)
}

func TestMulOfMatricesThatAreNotValid(t *testing.T) {
	for _, x := range notValid() {
		for n := 1; n <= most; n++ {
			m, e := gfmatrix.Mul(x, identity(n))
			checkError(t, "Mul, left", m, e, api.ErrArg)
			m, e = gfmatrix.Mul(identity(n), x)
			checkError(t, "Mul, right", m, e, api.ErrArg)
		}
		m, e := gfmatrix.Mul(x, x)
		checkError(t, "Mul, both", m, e, api.ErrArg)
	}
}

// Promise 3.2, Pick.

func checkPick(t *testing.T, m gfmatrix.Matrix, rows []int) {
	t.Helper()
	var want []byte
	for _, i := range rows {
		for k := range m.Cols {
			want = append(want, m.E[i*m.Cols+k])
		}
	}
	p, e := gfmatrix.Pick(m, rows)
	if e != api.OK || !gfmatrix.Valid(p) || !same(p, matrix(len(rows), m.Cols, want...)) {
		t.Errorf("rows %v of %d x %d: %v, %d", rows, m.Rows, m.Cols, p, e)
	}
}

func TestPickOfEachShape(t *testing.T) {
	r := rand.New(rand.NewSource(4))
	eachSize(func(rows, cols int) {
		m := random(r, rows, cols)
		for n := 1; n <= most; n++ {
			numbers := make([]int, n)
			for i := range numbers {
				numbers[i] = r.Intn(rows)
			}
			checkPick(t, m, numbers)
		}
		for i := range rows {
			checkPick(t, m, []int{i})
		}
		checkPick(t, m, r.Perm(rows))
	})
}

func TestPickWithNumbersThatRepeat(t *testing.T) {
	m := matrix(3, 2, 1, 2, 3, 4, 5, 6)
	if p, e := gfmatrix.Pick(m, []int{2, 0, 2}); e != api.OK || !same(p, matrix(3, 2, 5, 6, 1, 2, 5, 6)) {
		t.Errorf("%v, %d", p, e)
	}
	for i := range 3 {
		checkPick(t, m, slices.Repeat([]int{i}, 16))
	}
	checkPick(t, matrix(1, 1, 7), make([]int, 16))
}

func TestPickWithAWrongNumberOfRows(t *testing.T) {
	m := random(rand.New(rand.NewSource(5)), 16, 3)
	for _, n := range []int{0, 17, 18, 32, 256, 65536 + 3} {
		p, e := gfmatrix.Pick(m, make([]int, n))
		checkError(t, "Pick", p, e, api.ErrArg)
	}
	p, e := gfmatrix.Pick(m, nil)
	checkError(t, "Pick of no rows", p, e, api.ErrArg)
}

func TestPickOfRowsThatAreNotThere(t *testing.T) {
	for rows := 1; rows <= most; rows++ {
		m := matrix(rows, 2, make([]byte, rows*2)...)
		for _, i := range []int{rows, rows + 1, 256, 1 << 32, 1 << 62, math.MaxInt, -1, -rows, -256, -1 << 62, math.MinInt} {
			for _, numbers := range [][]int{{i}, {i, 0}, {0, i}, {0, rows - 1, i, 0}, append(make([]int, 15), i)} {
				p, e := gfmatrix.Pick(m, numbers)
				checkError(t, "Pick", p, e, api.ErrArg)
			}
		}
	}
}

func TestPickOfMatricesThatAreNotValid(t *testing.T) {
	for _, m := range notValid() {
		for _, numbers := range [][]int{nil, {0}, {0, 0}, {1}, {-1}, make([]int, 17)} {
			p, e := gfmatrix.Pick(m, numbers)
			checkError(t, "Pick", p, e, api.ErrArg)
		}
	}
}

// Promise 3.3.

// determinant adds up the products of the elements of each choice of one element
// in every row and column; the signs do not matter in this field. It goes through
// the rows and keeps, for each set of columns, the sum for the rows so far.
func determinant(m gfmatrix.Matrix) byte {
	sums := make([]byte, 1<<m.Cols)
	sums[0] = 1
	for set := 1; set < len(sums); set++ {
		i := bits.OnesCount(uint(set)) - 1
		for k := range m.Cols {
			if set>>k&1 == 1 {
				sums[set] ^= gf256.Mul(m.E[i*m.Cols+k], sums[set&^(1<<k)])
			}
		}
	}
	return sums[len(sums)-1]
}

// checkInvert compares Invert with the determinant, which is 0 if there is no
// inverse, and multiplies the inverse with m from both sides.
func checkInvert(t *testing.T, m gfmatrix.Matrix) {
	t.Helper()
	if determinant(m) == 0 {
		checkSingular(t, m)
		return
	}
	checkInverse(t, m)
}

func checkInverse(t *testing.T, m gfmatrix.Matrix) {
	t.Helper()
	x, e := gfmatrix.Invert(m)
	if e != api.OK || x.Rows != m.Rows || x.Cols != m.Cols || !gfmatrix.Valid(x) {
		t.Errorf("Invert(%v) = %v, %d", m, x, e)
		return
	}
	one := identity(m.Rows)
	if !same(product(x, m), one) || !same(product(m, x), one) {
		t.Errorf("Invert(%v) = %v is not the inverse", m, x)
	}
}

func checkSingular(t *testing.T, m gfmatrix.Matrix) {
	t.Helper()
	x, e := gfmatrix.Invert(m)
	checkError(t, "Invert of a singular matrix", x, e, api.ErrSingular)
}

func TestInvertExamples(t *testing.T) {
	for _, c := range [][2]gfmatrix.Matrix{
		{matrix(1, 1, 1), matrix(1, 1, 1)},
		{matrix(1, 1, 2), matrix(1, 1, 142)},
		{matrix(2, 2, 0, 1, 1, 0), matrix(2, 2, 0, 1, 1, 0)},
		{matrix(2, 2, 0, 2, 1, 0), matrix(2, 2, 0, 1, 142, 0)},
		{matrix(2, 2, 1, 7, 0, 1), matrix(2, 2, 1, 7, 0, 1)},
	} {
		if x, e := gfmatrix.Invert(c[0]); e != api.OK || !same(x, c[1]) {
			t.Errorf("Invert(%v) = %v, %d", c[0], x, e)
		}
	}
	checkSingular(t, matrix(2, 2, 1, 1, 1, 1))
}

func TestInvertOfEachByte(t *testing.T) {
	checkSingular(t, matrix(1, 1, 0))
	for a := 1; a < 256; a++ {
		inverse, _ := gf256.Inv(byte(a))
		if x, e := gfmatrix.Invert(matrix(1, 1, byte(a))); e != api.OK || !same(x, matrix(1, 1, inverse)) {
			t.Errorf("Invert(%d) = %v, %d", a, x, e)
		}
	}
}

func TestInvertOfSmallMatrices(t *testing.T) {
	values := []byte{0, 1, 2, 3, 29, 142, 255}
	for n := range 7 * 7 * 7 * 7 {
		checkInvert(t, matrix(2, 2, values[n%7], values[n/7%7], values[n/49%7], values[n/343]))
	}
	for set := range 1 << 9 {
		m := matrix(3, 3, make([]byte, 9)...)
		for i := range m.E {
			m.E[i] = byte(set >> i & 1)
		}
		checkInvert(t, m)
	}
}

// With few different elements, many matrices are singular and many pivots are 0.
func TestInvertOfRandomMatrices(t *testing.T) {
	r := rand.New(rand.NewSource(6))
	for n := 1; n <= 8; n++ {
		for range 300 {
			m := random(r, n, n)
			checkInvert(t, m)
			for _, mask := range []byte{1, 2, 3} {
				few := clone(m)
				for i := range few.E {
					few.E[i] &= mask
				}
				checkInvert(t, few)
			}
		}
	}
	for n := 9; n <= most; n++ {
		checkInvert(t, random(r, n, n))
	}
}

func TestInvertAtEachSize(t *testing.T) {
	r := rand.New(rand.NewSource(7))
	for n := 1; n <= most; n++ {
		checkInverse(t, identity(n))
		for range 20 {
			checkInverse(t, regular(r, n))
		}
	}
}

// regular returns a matrix with an inverse: the product of a lower and an upper
// triangle without 0 on their diagonals, with its rows shuffled.
func regular(r *rand.Rand, n int) gfmatrix.Matrix {
	lower, upper := identity(n), identity(n)
	for i := range n {
		for k := range i {
			lower.E[i*n+k] = byte(r.Uint32())
			upper.E[k*n+i] = byte(r.Uint32())
		}
		upper.E[i*n+i] = byte(1 + r.Intn(255))
	}
	return product(permutation(r.Perm(n)), product(lower, upper))
}

// permutation returns the matrix that has its 1 in row i in column numbers[i].
func permutation(numbers []int) gfmatrix.Matrix {
	n := len(numbers)
	m := matrix(n, n, make([]byte, n*n)...)
	for i, k := range numbers {
		m.E[i*n+k] = 1
	}
	return m
}

// The row that has a pivot is at all distances from the place of the pivot here.
func TestInvertWithZerosInPlaceOfPivots(t *testing.T) {
	r := rand.New(rand.NewSource(8))
	for n := 2; n <= most; n++ {
		for shift := range n {
			numbers := make([]int, n)
			for i := range numbers {
				numbers[i] = (i + shift) % n
			}
			checkInverse(t, permutation(numbers))
			slices.Reverse(numbers)
			checkInverse(t, permutation(numbers))
		}
		for range 10 {
			m := permutation(r.Perm(n))
			for i := range m.E {
				m.E[i] *= byte(1 + r.Intn(255))
			}
			checkInverse(t, m)
		}
		if n > 2 {
			checkInverse(t, withPivotThatVanishes(r, n))
		}
	}
}

// withPivotThatVanishes returns a matrix with an inverse, in which the second
// pivot is not 0 but becomes 0 when the first one clears its column.
func withPivotThatVanishes(r *rand.Rand, n int) gfmatrix.Matrix {
	m := identity(n)
	x := byte(1 + r.Intn(255))
	copy(m.E, []byte{1, x})
	copy(m.E[n:], []byte{1, x, 1})
	copy(m.E[2*n:], []byte{0, 1, 0})
	return m
}

func TestInvertTwice(t *testing.T) {
	r := rand.New(rand.NewSource(9))
	for n := 1; n <= most; n++ {
		m := regular(r, n)
		x, _ := gfmatrix.Invert(m)
		if again, e := gfmatrix.Invert(x); e != api.OK || !same(again, m) {
			t.Errorf("size %d: the inverse of the inverse is another matrix, error %d", n, e)
		}
	}
}

func TestInvertOfSingularMatricesAtEachSize(t *testing.T) {
	r := rand.New(rand.NewSource(10))
	for n := 1; n <= most; n++ {
		checkSingular(t, matrix(n, n, make([]byte, n*n)...))
		for rank := 1; rank < n; rank++ {
			checkSingular(t, product(random(r, n, rank), random(r, rank, n)))
			checkSingular(t, product(regular(r, n), unitsUpTo(n, rank)))
		}
		for i := range n {
			without, hollow := regular(r, n), regular(r, n)
			for k := range n {
				without.E[i*n+k] = 0
				hollow.E[k*n+i] = 0
			}
			checkSingular(t, without)
			checkSingular(t, hollow)
			for k := range i {
				checkSingular(t, withEqualRows(r, n, i, k))
			}
		}
	}
}

// unitsUpTo returns the identity without its last ones.
func unitsUpTo(n, count int) gfmatrix.Matrix {
	m := identity(n)
	clear(m.E[count*n:])
	return m
}

// withEqualRows returns a matrix in which row k is a multiple of row i.
func withEqualRows(r *rand.Rand, n, i, k int) gfmatrix.Matrix {
	m := regular(r, n)
	factor := byte(r.Uint32())
	for j := range n {
		m.E[k*n+j] = gf256.Mul(factor, m.E[i*n+j])
	}
	return m
}

// The columns before column k are independent, and it is their sum.
func TestInvertFailsAtEachColumn(t *testing.T) {
	r := rand.New(rand.NewSource(11))
	for n := 2; n <= most; n++ {
		for k := 1; k < n; k++ {
			m := regular(r, n)
			for i := range n {
				m.E[i*n+k] = 0
				for j := range k {
					m.E[i*n+k] ^= m.E[i*n+j]
				}
			}
			checkSingular(t, m)
		}
	}
}

func TestInvertOfMatricesThatAreNotValid(t *testing.T) {
	for _, m := range notValid() {
		x, e := gfmatrix.Invert(m)
		checkError(t, "Invert", x, e, api.ErrArg)
	}
}

// A matrix that is not square is never called singular, whatever its elements are.
func TestInvertOfMatricesThatAreNotSquare(t *testing.T) {
	r := rand.New(rand.NewSource(12))
	eachSize(func(rows, cols int) {
		if rows == cols {
			return
		}
		for _, m := range []gfmatrix.Matrix{random(r, rows, cols), matrix(rows, cols, make([]byte, rows*cols)...)} {
			x, e := gfmatrix.Invert(m)
			checkError(t, "Invert", x, e, api.ErrArg)
		}
	})
}

// Promise 3.4.

func randomRows(r *rand.Rand, count, length int) [][]byte {
	l := make([][]byte, count)
	for i := range l {
		l[i] = randomBytes(r, length)
	}
	return l
}

// checkApply is 3.4 word for word, byte by byte.
func checkApply(t *testing.T, m gfmatrix.Matrix, l [][]byte) {
	t.Helper()
	out, e := gfmatrix.Apply(m, l)
	if e != api.OK || len(out) != m.Rows {
		t.Errorf("%d x %d: %d rows, error %d", m.Rows, m.Cols, len(out), e)
		return
	}
	for i, row := range out {
		want := make([]byte, len(l[0]))
		for k, b := range l {
			for j := range b {
				want[j] ^= gf256.Mul(m.E[i*m.Cols+k], b[j])
			}
		}
		if !bytes.Equal(row, want) {
			t.Errorf("%d x %d and rows of %d bytes: row %d is wrong", m.Rows, m.Cols, len(want), i)
		}
	}
}

func TestApplyExamples(t *testing.T) {
	out, e := gfmatrix.Apply(matrix(1, 1, 2), [][]byte{{1, 128}})
	if e != api.OK || len(out) != 1 || !bytes.Equal(out[0], []byte{2, 29}) {
		t.Errorf("%v, %d", out, e)
	}
	out, e = gfmatrix.Apply(matrix(3, 2, 2, 0, 0, 1, 1, 1), [][]byte{{1, 128}, {3, 0}})
	if e != api.OK || !slices.EqualFunc(out, [][]byte{{2, 29}, {3, 0}, {2, 128}}, bytes.Equal) {
		t.Errorf("%v, %d", out, e)
	}
}

func TestApplyOfEachShape(t *testing.T) {
	r := rand.New(rand.NewSource(13))
	eachSize(func(rows, cols int) {
		for _, length := range []int{0, 1, 2, 17} {
			checkApply(t, random(r, rows, cols), randomRows(r, cols, length))
		}
	})
}

func TestApplyToRowsOfEachLength(t *testing.T) {
	r := rand.New(rand.NewSource(14))
	for length := range 300 {
		checkApply(t, random(r, 3, 2), randomRows(r, 2, length))
	}
	checkApply(t, random(r, 6, 4), randomRows(r, 4, 1<<18))
}

func TestApplyToRowsOfLengthZero(t *testing.T) {
	eachSize(func(rows, cols int) {
		empty := make([][]byte, cols)
		for i := range empty {
			if i%2 == 1 {
				empty[i] = []byte{}
			}
		}
		out, e := gfmatrix.Apply(matrix(rows, cols, make([]byte, rows*cols)...), empty)
		if e != api.OK || len(out) != rows {
			t.Errorf("%d x %d: %v, %d", rows, cols, out, e)
		}
		for _, row := range out {
			if len(row) != 0 {
				t.Errorf("%d x %d: a row is %v", rows, cols, row)
			}
		}
	})
}

func TestApplyAgreesWithMul(t *testing.T) {
	r := rand.New(rand.NewSource(15))
	eachSize(func(rows, cols int) {
		a, b := random(r, rows, cols), random(r, cols, 16)
		out, e := gfmatrix.Apply(a, slices.Collect(slices.Chunk(b.E, 16)))
		m, f := gfmatrix.Mul(a, b)
		if e != api.OK || f != api.OK || !bytes.Equal(slices.Concat(out...), m.E) {
			t.Errorf("%d x %d: Apply and Mul differ", rows, cols)
		}
	})
}

func checkApplyError(t *testing.T, m gfmatrix.Matrix, l [][]byte) {
	t.Helper()
	if out, e := gfmatrix.Apply(m, l); e != api.ErrArg || len(out) != 0 {
		t.Errorf("%d x %d and %d rows: %v, error %d", m.Rows, m.Cols, len(l), out, e)
	}
}

func TestApplyToAWrongNumberOfRows(t *testing.T) {
	r := rand.New(rand.NewSource(16))
	eachSize(func(rows, cols int) {
		m := random(r, rows, cols)
		checkApplyError(t, m, nil)
		for _, length := range []int{0, 1, 5} {
			for n := range 20 {
				if n != cols {
					checkApplyError(t, m, randomRows(r, n, length))
				}
			}
		}
	})
}

func TestApplyToRowsOfDifferentLengths(t *testing.T) {
	r := rand.New(rand.NewSource(17))
	for cols := 2; cols <= most; cols++ {
		for i := range cols {
			for _, length := range []int{0, 1, 4, 6, 200} {
				l := randomRows(r, cols, 5)
				l[i] = randomBytes(r, length)
				checkApplyError(t, random(r, 3, cols), l)
				// The rows with a factor 0 count too.
				checkApplyError(t, matrix(3, cols, make([]byte, 3*cols)...), l)
			}
		}
	}
	checkApplyError(t, matrix(1, 2, 1, 1), [][]byte{nil, {0}})
	checkApplyError(t, matrix(1, 2, 1, 1), [][]byte{{0}, nil})
}

func TestApplyOfMatricesThatAreNotValid(t *testing.T) {
	for _, m := range notValid() {
		for n := range 19 {
			checkApplyError(t, m, make([][]byte, n))
			checkApplyError(t, m, randomRows(rand.New(rand.NewSource(18)), n, 3))
		}
	}
}

// Promise 3.5.

// The rows of a Vandermonde matrix do not depend on how many there are (3.1), so
// the greatest ones have the rows of all of them.
func TestAnyRowsOfAVandermondeMatrixHaveAnInverse(t *testing.T) {
	r := rand.New(rand.NewSource(19))
	for set := 1; set < 1<<most; set++ {
		var rows []int
		for i := range most {
			if set>>i&1 == 1 {
				rows = append(rows, i)
			}
		}
		r.Shuffle(len(rows), func(i, k int) { rows[i], rows[k] = rows[k], rows[i] })
		v, _ := gfmatrix.Vandermonde(most, len(rows))
		checkPicked(t, v, rows)
	}
}

func checkPicked(t *testing.T, v gfmatrix.Matrix, rows []int) {
	t.Helper()
	m, e := gfmatrix.Pick(v, rows)
	if e != api.OK {
		t.Fatalf("rows %v of %d x %d: error %d", rows, v.Rows, v.Cols, e)
	}
	// An inverse from one side is one from the other side too.
	if x, e := gfmatrix.Invert(m); e != api.OK || !same(product(m, x), identity(v.Cols)) {
		t.Fatalf("rows %v of %d x %d have no inverse: error %d", rows, v.Rows, v.Cols, e)
	}
}

func TestRowsOfEachVandermondeMatrixHaveAnInverse(t *testing.T) {
	r := rand.New(rand.NewSource(20))
	eachSize(func(rows, cols int) {
		if cols > rows {
			return
		}
		v, _ := gfmatrix.Vandermonde(rows, cols)
		for range 5 {
			checkPicked(t, v, r.Perm(rows)[:cols])
		}
	})
}

func TestEqualRowsOfAVandermondeMatrixHaveNoInverse(t *testing.T) {
	r := rand.New(rand.NewSource(21))
	for n := 2; n <= most; n++ {
		v, _ := gfmatrix.Vandermonde(most, n)
		rows := r.Perm(most)[:n]
		rows[0] = rows[n-1]
		m, _ := gfmatrix.Pick(v, rows)
		checkSingular(t, m)
	}
}

// Rules R3 and R4, and rule 7 of LANGUAGE.md.

// spoil changes all bytes of a result, and those behind it that an append reaches.
func spoil(b []byte) {
	for i := range b[:cap(b)] {
		b[:cap(b)][i] ^= 255
	}
}

// roomy returns a matrix whose elements have room behind them, and all its memory.
func roomy(r *rand.Rand, rows, cols int) (gfmatrix.Matrix, []byte) {
	all := randomBytes(r, rows*cols+8)
	return gfmatrix.Matrix{Rows: rows, Cols: cols, E: all[:rows*cols]}, all
}

func TestResultsHaveMemoryOfTheirOwn(t *testing.T) {
	r := rand.New(rand.NewSource(22))
	for n := 1; n <= most; n++ {
		m, all := roomy(r, n, n)
		numbers := r.Perm(n)
		if n%2 == 0 {
			// All results are equal to m then, and still not its memory.
			copy(m.E, identity(n).E)
			slices.Sort(numbers)
		}
		before := bytes.Clone(all)
		kept := slices.Clone(numbers)
		sum, _ := gfmatrix.Mul(m, m)
		one, _ := gfmatrix.Mul(m, identity(n))
		picked, _ := gfmatrix.Pick(m, numbers)
		inverse, _ := gfmatrix.Invert(m)
		for _, x := range []gfmatrix.Matrix{sum, one, picked, inverse} {
			spoil(x.E)
		}
		if !bytes.Equal(all, before) || !slices.Equal(numbers, kept) {
			t.Errorf("size %d: an argument has changed", n)
		}
	}
}

func TestApplyReturnsRowsOfTheirOwn(t *testing.T) {
	r := rand.New(rand.NewSource(23))
	one := randomBytes(r, 9)
	kept := bytes.Clone(one)
	for n := 1; n <= most; n++ {
		// The same memory is given several times, and all rows of the result are equal.
		m, all := roomy(r, n, n)
		for i := range n {
			copy(m.E[i*n:], m.E[:n])
		}
		before := bytes.Clone(all)
		out, e := gfmatrix.Apply(m, slices.Repeat([][]byte{one[:8]}, n))
		last := bytes.Clone(out[n-1])
		for _, row := range out[:n-1] {
			spoil(row)
		}
		if e != api.OK || !bytes.Equal(out[n-1], last) {
			t.Errorf("size %d: two rows share memory, error %d", n, e)
		}
		spoil(out[n-1])
		if !bytes.Equal(one, kept) || !bytes.Equal(all, before) {
			t.Errorf("size %d: an argument has changed", n)
		}
	}
}

func TestApplyOfTheIdentityCopies(t *testing.T) {
	r := rand.New(rand.NewSource(24))
	for n := 1; n <= most; n++ {
		l := randomRows(r, n, 3)
		kept := slices.Concat(l...)
		out, e := gfmatrix.Apply(identity(n), l)
		if e != api.OK || !bytes.Equal(slices.Concat(out...), kept) {
			t.Fatalf("size %d: %v, %d", n, out, e)
		}
		for _, row := range out {
			spoil(row)
		}
		if !bytes.Equal(slices.Concat(l...), kept) {
			t.Errorf("size %d: the argument has changed: %v", n, l)
		}
	}
}

func TestArgumentsStayWithAnError(t *testing.T) {
	m := matrix(2, 2, 3, 5, 3, 5)
	gfmatrix.Invert(m)
	gfmatrix.Mul(m, matrix(1, 1, 1))
	numbers := []int{1, 0, 2}
	gfmatrix.Pick(m, numbers)
	l := [][]byte{{1}, {2, 3}}
	gfmatrix.Apply(m, l)
	if !same(m, matrix(2, 2, 3, 5, 3, 5)) || !slices.Equal(numbers, []int{1, 0, 2}) ||
		!slices.EqualFunc(l, [][]byte{{1}, {2, 3}}, bytes.Equal) {
		t.Errorf("an argument has changed: %v, %v, %v", m, numbers, l)
	}
}

func TestCallsLeaveNoTrace(t *testing.T) {
	m := matrix(2, 2, 1, 2, 3, 4)
	made := func() []gfmatrix.Matrix {
		one, _ := gfmatrix.Identity(3)
		v, _ := gfmatrix.Vandermonde(3, 2)
		square, _ := gfmatrix.Mul(m, m)
		picked, _ := gfmatrix.Pick(m, []int{1, 1})
		inverse, _ := gfmatrix.Invert(m)
		out, _ := gfmatrix.Apply(m, [][]byte{{7, 8}, {9, 10}})
		return []gfmatrix.Matrix{one, v, square, picked, inverse, matrix(2, 2, slices.Concat(out...)...)}
	}
	first := made()
	var kept []gfmatrix.Matrix
	for _, x := range first {
		kept = append(kept, clone(x))
		spoil(x.E)
	}
	gfmatrix.Invert(matrix(2, 2, 1, 1, 1, 1))
	if !slices.EqualFunc(made(), kept, same) {
		t.Error("a call depends on earlier calls or on what became of their results")
	}
}
