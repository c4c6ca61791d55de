package rs_test

import (
	"bytes"
	"math/rand"
	"slices"
	"testing"

	"needlestore/api"
	"needlestore/gfmatrix"
	"needlestore/rs"
)

// The numbers of shards are written out, so that changed constants are noticed.
const (
	data = 4
	all  = 6
)

// factors are the elements of the code: a column each for the data shards.
var factors = code()

// times is the product of 2.1, bit by bit.
func times(a, b byte) byte {
	product := 0
	for bit := range 8 {
		if b>>bit&1 == 1 {
			product ^= int(a) << bit
		}
	}
	for bit := 14; bit >= 8; bit-- {
		if product>>bit&1 == 1 {
			product ^= 0x11d << (bit - 8)
		}
	}
	return byte(product)
}

// quotient returns the element whose product with b is a.
func quotient(a, b byte) byte {
	for x := range 256 {
		if times(byte(x), b) == a {
			return byte(x)
		}
	}
	panic("there is no quotient")
}

// code is 4.1 without matrices. The inverse of the first four rows of V turns
// the values of a polynomial at the elements 0 to 3 into its coefficients, and
// V turns these into its values at the elements 0 to 5. Lagrange's formula
// does both at once.
func code() [all][data]byte {
	var m [all][data]byte
	for i := range m {
		for k := range m[i] {
			above, below := byte(1), byte(1)
			for j := range data {
				if j != k {
					above = times(above, byte(i)^byte(j))
					below = times(below, byte(k)^byte(j))
				}
			}
			m[i][k] = quotient(above, below)
		}
	}
	return m
}

// sealed returns the six shards of four data shards, in memory of their own.
func sealed(l [][]byte) [][]byte {
	out := make([][]byte, all)
	for i := range out {
		out[i] = make([]byte, len(l[0]))
		for k := range data {
			for n, x := range l[k] {
				out[i][n] ^= times(factors[i][k], x)
			}
		}
	}
	return out
}

// accepted is the Verify of 4.2, word for word.
func accepted(l [][]byte) bool {
	if len(l) != all {
		return false
	}
	for _, b := range l {
		if len(b) != len(l[0]) {
			return false
		}
	}
	return equal(l, sealed(l[:data]))
}

// replaceable returns the numbers of the shards that can be replaced so that
// the shards are accepted. Each byte of a shard can be chosen by itself.
func replaceable(l [][]byte) []int {
	var numbers []int
	for i := range all {
		helps := true
		for n := range l[0] {
			helps = helps && someByteHelps(l, i, n)
		}
		if helps {
			numbers = append(numbers, i)
		}
	}
	return numbers
}

func someByteHelps(l [][]byte, i, n int) bool {
	column := make([][]byte, all)
	for k := range column {
		column[k] = []byte{l[k][n]}
	}
	for x := range 256 {
		column[i][0] = byte(x)
		if accepted(column) {
			return true
		}
	}
	return false
}

func randomBytes(r *rand.Rand, n int) []byte {
	b := make([]byte, n)
	for i := range b {
		b[i] = byte(r.Uint32())
	}
	return b
}

func randomRows(r *rand.Rand, rows, n int) [][]byte {
	l := make([][]byte, rows)
	for i := range l {
		l[i] = randomBytes(r, n)
	}
	return l
}

func randomSealed(r *rand.Rand, n int) [][]byte { return sealed(randomRows(r, data, n)) }

func equal(a, b [][]byte) bool { return slices.EqualFunc(a, b, bytes.Equal) }

func clone(l [][]byte) [][]byte {
	out := make([][]byte, len(l))
	for i, b := range l {
		out[i] = bytes.Clone(b)
	}
	return out
}

// damage changes some bytes of b, and at least one.
func damage(r *rand.Rand, b []byte) {
	sure := r.Intn(len(b))
	for i := range b {
		if i == sure || r.Intn(3) == 0 {
			b[i] ^= byte(1 + r.Intn(255))
		}
	}
}

// members returns the set with this number: bit i says whether shard i is in it.
func members(number int) (have []bool, count int) {
	have = make([]bool, all)
	for i := range have {
		if number>>i&1 == 1 {
			have[i] = true
			count++
		}
	}
	return have, count
}

func checkShards(t *testing.T, what string, got [][]byte, e api.Errno, want [][]byte) {
	t.Helper()
	if e != api.OK || !equal(got, want) {
		t.Errorf("%s: %v, error %d, want %v", what, got, e, want)
	}
}

// checkError checks that a call returned an error, and no shards with it.
func checkError(t *testing.T, what string, got [][]byte, e, want api.Errno) {
	t.Helper()
	if e != want || len(got) != 0 {
		t.Errorf("%s: %v, error %d, want error %d and no shards", what, got, e, want)
	}
}

func checkLocate(t *testing.T, what string, l [][]byte, number int, want api.Errno) {
	t.Helper()
	if i, e := rs.Locate(l); i != number || e != want {
		t.Errorf("%s: Locate(%v) = %d, error %d, want %d, error %d", what, l, i, e, number, want)
	}
}

// Promise 4.1.

func TestCodeIsVTimesAnInverse(t *testing.T) {
	v, _ := gfmatrix.Vandermonde(all, data)
	first, _ := gfmatrix.Pick(v, []int{0, 1, 2, 3})
	inverse, _ := gfmatrix.Invert(first)
	want, e := gfmatrix.Mul(v, inverse)
	m := rs.Code()
	if e != api.OK || m.Rows != all || m.Cols != data || !bytes.Equal(m.E, want.E) {
		t.Errorf("%v, want %v, %d", m, want, e)
	}
}

func TestCodeElements(t *testing.T) {
	m := rs.Code()
	if !gfmatrix.Valid(m) || m.Rows != all || m.Cols != data {
		t.Fatal(m)
	}
	for i := range all {
		for k := range data {
			if m.E[i*data+k] != factors[i][k] {
				t.Errorf("row %d, column %d: %d, want %d", i, k, m.E[i*data+k], factors[i][k])
			}
		}
	}
}

func TestCodeBeginsWithTheIdentity(t *testing.T) {
	m := rs.Code()
	if m.Rows != all || m.Cols != data || !bytes.Equal(m.E[:data*data], []byte{1, 0, 0, 0, 0, 1, 0, 0, 0, 0, 1, 0, 0, 0, 0, 1}) {
		t.Errorf("%v", m)
	}
}

// The first four rows of V turn the code back into V, whose rows are powers.
func TestCodeTimesPowers(t *testing.T) {
	m := rs.Code()
	power := func(x, n int) byte {
		p := byte(1)
		for range n {
			p = times(p, byte(x))
		}
		return p
	}
	for i := range all {
		for n := range data {
			var sum byte
			for k := range data {
				sum ^= times(m.E[i*data+k], power(k, n))
			}
			if sum != power(i, n) {
				t.Errorf("row %d, column %d: %d, want %d", i, n, sum, power(i, n))
			}
		}
	}
}

// Promise 4.2.

func TestEncodeExamples(t *testing.T) {
	for _, x := range []byte{0, 7} {
		for n := range 5 {
			b := bytes.Repeat([]byte{x}, n)
			parity, e := rs.Encode([][]byte{b, b, b, b})
			checkShards(t, "four equal shards", parity, e, [][]byte{b, b})
		}
	}
}

func TestEncodeIsTwoRowsOfApply(t *testing.T) {
	l := randomRows(rand.New(rand.NewSource(1)), data, 50)
	whole, _ := gfmatrix.Apply(rs.Code(), l)
	parity, e := rs.Encode(l)
	checkShards(t, "50 bytes", parity, e, whole[4:])
}

func TestEncodeOfEachByte(t *testing.T) {
	for k := range data {
		for x := range 256 {
			l := [][]byte{{0}, {0}, {0}, {0}}
			l[k][0] = byte(x)
			parity, e := rs.Encode(l)
			checkShards(t, "one byte", parity, e, [][]byte{{times(factors[4][k], byte(x))}, {times(factors[5][k], byte(x))}})
		}
	}
}

func TestEncodeOfAllLengths(t *testing.T) {
	r := rand.New(rand.NewSource(2))
	for n := range 200 {
		l := randomRows(r, data, n)
		parity, e := rs.Encode(l)
		checkShards(t, "random bytes", parity, e, sealed(l)[data:])
	}
}

func TestEncodeOfManyBytes(t *testing.T) {
	l := randomRows(rand.New(rand.NewSource(3)), data, 1<<17)
	parity, e := rs.Encode(l)
	if e != api.OK || !equal(parity, sealed(l)[data:]) {
		t.Errorf("the sums are different, error %d", e)
	}
}

func TestEncodeOfNoBytes(t *testing.T) {
	for _, l := range [][][]byte{make([][]byte, data), {{}, nil, {}, nil}} {
		parity, e := rs.Encode(l)
		checkShards(t, "no bytes", parity, e, [][]byte{{}, {}})
	}
}

func TestEncodeWrongNumber(t *testing.T) {
	for _, n := range []int{0, 1, 2, 3, 5, 6, 7, 8, 16, 17, 100} {
		parity, e := rs.Encode(make([][]byte, n))
		checkError(t, "shards without bytes", parity, e, api.ErrArg)
		parity, e = rs.Encode(slices.Repeat([][]byte{{7}}, n))
		checkError(t, "shards of one byte", parity, e, api.ErrArg)
	}
	parity, e := rs.Encode(nil)
	checkError(t, "nil", parity, e, api.ErrArg)
}

func TestEncodeDifferentLengths(t *testing.T) {
	for number := 1; number < 1<<data-1; number++ {
		for _, lengths := range [][2]int{{0, 1}, {1, 0}, {3, 4}, {4, 3}, {1, 64}} {
			l := make([][]byte, data)
			for k := range l {
				l[k] = make([]byte, lengths[number>>k&1])
			}
			parity, e := rs.Encode(l)
			checkError(t, "different lengths", parity, e, api.ErrArg)
		}
	}
}

func TestVerifyAccepts(t *testing.T) {
	r := rand.New(rand.NewSource(4))
	for n := range 100 {
		if l := randomSealed(r, n); !rs.Verify(l) {
			t.Errorf("%v is not accepted", l)
		}
	}
	if !rs.Verify(make([][]byte, all)) || !rs.Verify([][]byte{{}, nil, nil, {}, nil, {}}) {
		t.Error("shards without bytes are not accepted")
	}
}

func TestVerifyNoticesEachChangedByte(t *testing.T) {
	r := rand.New(rand.NewSource(5))
	for _, n := range []int{1, 2, 5} {
		l := randomSealed(r, n)
		for i := range all {
			for k := range n {
				for change := 1; change < 256; change++ {
					l[i][k] ^= byte(change)
					if rs.Verify(l) {
						t.Errorf("%v is accepted: shard %d, byte %d", l, i, k)
					}
					l[i][k] ^= byte(change)
				}
			}
		}
	}
}

func TestVerifyNoticesAByteAmongMany(t *testing.T) {
	l := randomSealed(rand.New(rand.NewSource(6)), 300)
	for i := range all {
		for _, k := range []int{0, 1, 150, 298, 299} {
			l[i][k] ^= 128
			if rs.Verify(l) {
				t.Errorf("shard %d, byte %d: accepted", i, k)
			}
			l[i][k] ^= 128
		}
	}
}

func TestVerifyNoticesExchangedShards(t *testing.T) {
	l := randomSealed(rand.New(rand.NewSource(7)), 20)
	for a := range all {
		for b := range a {
			l[a], l[b] = l[b], l[a]
			if rs.Verify(l) {
				t.Errorf("shards %d and %d are exchanged: accepted", a, b)
			}
			l[a], l[b] = l[b], l[a]
		}
	}
}

func TestVerifyWrongNumber(t *testing.T) {
	if rs.Verify(nil) || rs.Verify([][]byte{}) {
		t.Error("no shards are accepted")
	}
	whole := sealed([][]byte{{7}, {7}, {7}, {7}})
	for n := range 20 {
		l := slices.Repeat([][]byte{{7}}, n)
		if rs.Verify(l) != (n == all) || rs.Verify(make([][]byte, n)) != (n == all) {
			t.Errorf("%d shards", n)
		}
		if n < all && rs.Verify(whole[:n]) {
			t.Errorf("the first %d shards are accepted", n)
		}
	}
}

// A zero more or less at the end of some shards would not change any sum.
func TestVerifyDifferentLengths(t *testing.T) {
	for number := 1; number < 1<<all-1; number++ {
		for _, lengths := range [][2]int{{0, 1}, {3, 4}, {1, 64}} {
			l := make([][]byte, all)
			for i := range l {
				l[i] = make([]byte, lengths[number>>i&1])
			}
			if rs.Verify(l) {
				t.Errorf("lengths %v, set %b: accepted", lengths, number)
			}
		}
	}
}

// Promise 4.3.

func TestRestoreExample(t *testing.T) {
	l := sealed([][]byte{{7}, {7}, {7}, {7}})
	for number := range 1 << all {
		if have, count := members(number); count == 3 {
			out, e := rs.Restore(l, have)
			checkError(t, "three shards", out, e, api.ErrUnavailable)
		}
	}
}

// replaced returns the shards, with the ones that are not in a set missing,
// damaged or of another length.
func replaced(r *rand.Rand, l [][]byte, have []bool, way int) [][]byte {
	out := clone(l)
	for i := range out {
		if have[i] {
			continue
		}
		switch way {
		case 0:
			out[i] = nil
		case 1:
			out[i] = randomBytes(r, len(l[i]))
		case 2:
			out[i] = append(out[i], 0)
		case 3:
			out[i] = out[i][:len(l[i])/2]
		case 4:
			out[i] = randomBytes(r, 500+i)
		}
	}
	return out
}

func TestRestoreFromEverySet(t *testing.T) {
	r := rand.New(rand.NewSource(8))
	for _, n := range []int{0, 1, 2, 64, 100} {
		l := randomSealed(r, n)
		for number := range 1 << all {
			have, count := members(number)
			for way := range 5 {
				out, e := rs.Restore(replaced(r, l, have, way), have)
				if count < data {
					checkError(t, "too few shards", out, e, api.ErrUnavailable)
				} else {
					checkShards(t, "enough shards", out, e, l)
				}
			}
		}
	}
}

// The first four shards are taken, also if the others do not agree with them.
func TestRestoreTakesTheFirstFour(t *testing.T) {
	r := rand.New(rand.NewSource(9))
	for _, n := range []int{1, 7, 64} {
		for number := range 1 << all {
			have, count := members(number)
			if count < data {
				continue
			}
			l := randomRows(r, all, n)
			out, e := rs.Restore(l, have)
			if e != api.OK || !accepted(out) {
				t.Fatalf("set %b: %v, error %d", number, out, e)
			}
			taken := 0
			for i := 0; taken < data; i++ {
				if !have[i] {
					continue
				}
				taken++
				if !bytes.Equal(out[i], l[i]) {
					t.Errorf("set %b: shard %d is %v, want %v", number, i, out[i], l[i])
				}
			}
		}
	}
}

func TestRestoreWithOneShardThatDoesNotAgree(t *testing.T) {
	r := rand.New(rand.NewSource(10))
	l := randomSealed(r, 9)
	for i := range all {
		bad := clone(l)
		damage(r, bad[i])
		out, e := rs.Restore(bad, []bool{true, true, true, true, true, true})
		if i >= data {
			checkShards(t, "a damaged parity shard", out, e, l)
		} else {
			checkShards(t, "a damaged data shard", out, e, sealed(bad[:data]))
		}
	}
}

func TestRestoreWrongNumber(t *testing.T) {
	for shards := range 12 {
		for haves := range 12 {
			if shards == all && haves == all {
				continue
			}
			l := slices.Repeat([][]byte{{7}}, shards)
			for _, x := range []bool{false, true} {
				out, e := rs.Restore(l, slices.Repeat([]bool{x}, haves))
				checkError(t, "a wrong number", out, e, api.ErrArg)
			}
		}
	}
	out, e := rs.Restore(nil, nil)
	checkError(t, "nothing", out, e, api.ErrArg)
}

// Different lengths come before too few shards, and count only where have is true.
func TestRestoreDifferentLengths(t *testing.T) {
	r := rand.New(rand.NewSource(11))
	l := randomSealed(r, 5)
	for number := range 1 << all {
		have, count := members(number)
		for longer := range 1 << all {
			given := clone(l)
			for i := range given {
				if longer>>i&1 == 1 {
					given[i] = append(given[i], 0)
				}
			}
			out, e := rs.Restore(given, have)
			switch both := number & longer; {
			case both != 0 && both != number:
				checkError(t, "different lengths", out, e, api.ErrArg)
			case count < data:
				checkError(t, "too few shards", out, e, api.ErrUnavailable)
			case both == 0:
				checkShards(t, "enough shards", out, e, l)
			default:
				want := clone(l)
				for i := range want {
					want[i] = append(want[i], 0)
				}
				checkShards(t, "enough longer shards", out, e, want)
			}
		}
	}
}

func TestRestoreWithoutBytesAndWithBytes(t *testing.T) {
	l := [][]byte{nil, {}, nil, {}, {1}, {1}}
	out, e := rs.Restore(l, []bool{true, true, true, true, false, false})
	checkShards(t, "no bytes", out, e, make([][]byte, all))
	out, e = rs.Restore(l, []bool{true, true, true, true, false, true})
	checkError(t, "no bytes and one byte", out, e, api.ErrArg)
	out, e = rs.Restore(l, []bool{false, false, false, true, false, true})
	checkError(t, "two of them", out, e, api.ErrArg)
}

// Promise 4.4.

func TestLocateAccepts(t *testing.T) {
	r := rand.New(rand.NewSource(12))
	for n := range 60 {
		checkLocate(t, "no damage", randomSealed(r, n), -1, api.OK)
	}
}

func TestLocateWithoutBytes(t *testing.T) {
	checkLocate(t, "nil", make([][]byte, all), -1, api.OK)
	checkLocate(t, "nil or empty", [][]byte{nil, {}, nil, {}, {}, nil}, -1, api.OK)
}

func TestLocateEachChangeOfAByte(t *testing.T) {
	l := randomSealed(rand.New(rand.NewSource(13)), 1)
	for i := range all {
		for change := 1; change < 256; change++ {
			l[i][0] ^= byte(change)
			checkLocate(t, "one byte", l, i, api.OK)
			l[i][0] ^= byte(change)
		}
	}
}

func TestLocateADamagedShard(t *testing.T) {
	r := rand.New(rand.NewSource(14))
	for n := 1; n < 50; n++ {
		l := randomSealed(r, n)
		for i := range all {
			bad := clone(l)
			damage(r, bad[i])
			checkLocate(t, "one shard", bad, i, api.OK)
			bad[i] = bytes.Clone(l[i])
			bad[i][n-1] ^= 1
			checkLocate(t, "the last byte", bad, i, api.OK)
		}
	}
}

// Changes of different bytes name different shards.
func TestLocateTwoShardsInDifferentBytes(t *testing.T) {
	r := rand.New(rand.NewSource(15))
	for a := range all {
		for b := range all {
			if a == b {
				continue
			}
			l := randomSealed(r, 4)
			l[a][1] ^= byte(1 + r.Intn(255))
			l[b][3] ^= byte(1 + r.Intn(255))
			checkLocate(t, "two shards", l, 0, api.ErrCheck)
		}
	}
}

func TestLocateTwoShardsInTheSameByte(t *testing.T) {
	r := rand.New(rand.NewSource(16))
	for a := range all {
		for b := range a {
			for range 20 {
				l := randomSealed(r, 1)
				damage(r, l[a])
				damage(r, l[b])
				checkByDefinition(t, l)
			}
		}
	}
}

// Two damaged shards may look like a single third one: it can be replaced.
func TestLocateNamesAThirdShard(t *testing.T) {
	r := rand.New(rand.NewSource(17))
	for a := range all {
		for b := range a {
			for third := range all {
				if third == a || third == b {
					continue
				}
				// Three shards of 0 and one of 1 leave zeros outside these three.
				have := []bool{true, true, true, true, true, true}
				have[b], have[third] = false, false
				change := make([][]byte, all)
				for i := range change {
					change[i] = []byte{0, 0}
				}
				change[a] = []byte{1, 9}
				change, _ = rs.Restore(change, have)
				l := randomSealed(r, 2)
				for i := range 2 {
					l[a][i] ^= change[a][i]
					l[b][i] ^= change[b][i]
				}
				checkLocate(t, "two shards", l, third, api.OK)
			}
		}
	}
}

// checkByDefinition compares Locate with the chapter's words, for shards that are not accepted.
func checkByDefinition(t *testing.T, l [][]byte) {
	t.Helper()
	numbers := replaceable(l)
	switch {
	case accepted(l):
		t.Errorf("%v is accepted", l)
	case len(numbers) == 0:
		checkLocate(t, "no shard helps", l, 0, api.ErrCheck)
	case len(numbers) == 1:
		checkLocate(t, "one shard helps", l, numbers[0], api.OK)
	default:
		t.Errorf("each of the shards %v of %v can be replaced", numbers, l)
	}
}

func TestLocateWrongNumber(t *testing.T) {
	l := slices.Repeat([][]byte{{7}}, 20)
	for n := range l {
		if n == all {
			continue
		}
		checkLocate(t, "a wrong number", l[:n], 0, api.ErrArg)
		checkLocate(t, "a wrong number", make([][]byte, n), 0, api.ErrArg)
	}
	checkLocate(t, "nil", nil, 0, api.ErrArg)
	checkLocate(t, "five random shards", randomRows(rand.New(rand.NewSource(18)), 5, 3), 0, api.ErrArg)
	checkLocate(t, "seven random shards", randomRows(rand.New(rand.NewSource(18)), 7, 3), 0, api.ErrArg)
}

// Another length is no damage that could be located.
func TestLocateDifferentLengths(t *testing.T) {
	r := rand.New(rand.NewSource(19))
	for number := 1; number < 1<<all-1; number++ {
		l := randomSealed(r, 3)
		for i := range l {
			if number>>i&1 == 1 {
				l[i] = append(l[i], 0)
			}
		}
		checkLocate(t, "accepted but for the lengths", l, 0, api.ErrArg)
		damage(r, l[0])
		damage(r, l[3])
		checkLocate(t, "two damaged shards", l, 0, api.ErrArg)
	}
	checkLocate(t, "no bytes and one byte", [][]byte{nil, nil, nil, nil, nil, {0}}, 0, api.ErrArg)
}

// Promise 4.5.

func TestAnyFourShardsRestoreWhatWasEncoded(t *testing.T) {
	r := rand.New(rand.NewSource(20))
	l := randomRows(r, data, 1000)
	parity, e := rs.Encode(l)
	if e != api.OK {
		t.Fatal(e)
	}
	whole := slices.Concat(l, parity)
	if !rs.Verify(whole) {
		t.Error("the shards are not accepted")
	}
	for a := range all {
		for b := range a {
			bad, have := clone(whole), slices.Repeat([]bool{true}, all)
			bad[a], have[a], bad[b], have[b] = nil, false, nil, false
			if out, e := rs.Restore(bad, have); e != api.OK || !equal(out, whole) {
				t.Errorf("without shards %d and %d: error %d or other shards", b, a, e)
			}
		}
	}
}

func TestALocatedShardIsRestored(t *testing.T) {
	r := rand.New(rand.NewSource(21))
	for range 100 {
		l := randomSealed(r, 1+r.Intn(100))
		bad := clone(l)
		number := r.Intn(all)
		damage(r, bad[number])
		i, e := rs.Locate(bad)
		if i != number || e != api.OK {
			t.Fatalf("Locate: %d, error %d, want %d", i, e, number)
		}
		have := slices.Repeat([]bool{true}, all)
		have[i] = false
		out, e := rs.Restore(bad, have)
		checkShards(t, "the other five", out, e, l)
	}
}

// Among random shards of one byte, some are such that a shard can be replaced.
func TestAtMostOneShardCanBeReplaced(t *testing.T) {
	r := rand.New(rand.NewSource(22))
	for range 800 {
		l := randomRows(r, all, 1)
		if !accepted(l) {
			checkByDefinition(t, l)
		}
	}
	for range 50 {
		l := randomSealed(r, 2)
		damage(r, l[r.Intn(all)])
		l[r.Intn(all)] = randomBytes(r, 2)
		if !accepted(l) {
			checkByDefinition(t, l)
		}
	}
}

// Any two accepted sets of shards that differ do so in at least three shards.
func TestAcceptedShardsDifferInThree(t *testing.T) {
	r := rand.New(rand.NewSource(23))
	for range 2000 {
		l := make([][]byte, data)
		for k := range l {
			l[k] = []byte{byte(r.Intn(256) * r.Intn(2))}
		}
		parity, e := rs.Encode(l)
		if e != api.OK {
			t.Fatal(e)
		}
		different := 0
		for _, b := range slices.Concat(l, parity) {
			if b[0] != 0 {
				different++
			}
		}
		if different == 1 || different == 2 {
			t.Errorf("%v, %v differ from zeros in %d shards", l, parity, different)
		}
	}
}

// Rules R1, R3 and R4, and rule 7 of LANGUAGE.md.

// spoil changes all bytes of a result, and those behind them that an append reaches.
func spoil(l [][]byte) {
	for _, b := range l {
		for i := range b[:cap(b)] {
			b[:cap(b)][i] ^= 255
		}
	}
}

// roomy returns shards that have room behind them, and all their memory.
func roomy(l [][]byte) (shards [][]byte, memory [][]byte) {
	memory = append(clone(l), []byte{1, 2, 3})
	for i := range memory {
		memory[i] = append(memory[i], 11, 12, 13)
	}
	shards = slices.Clone(memory)[:len(l)]
	for i := range shards {
		shards[i] = memory[i][:len(l[i])]
	}
	return shards, memory
}

func TestArgumentsStay(t *testing.T) {
	r := rand.New(rand.NewSource(24))
	for number := range 1 << all {
		l := randomSealed(r, 6)
		if number%3 != 0 {
			damage(r, l[number%all])
		}
		shards, memory := roomy(l)
		before := clone(memory)
		have, _ := members(number)
		kept := slices.Clone(have)
		parity, _ := rs.Encode(shards[:data])
		restored, _ := rs.Restore(shards, have)
		rs.Verify(shards)
		rs.Locate(shards)
		spoil(parity)
		spoil(restored)
		whole := shards[:all+1]
		if !equal(memory, before) || !equal(shards, l) || !bytes.Equal(whole[all], before[all]) || !slices.Equal(have, kept) {
			t.Errorf("set %b: an argument has changed", number)
		}
	}
}

func TestArgumentsStayWithAnError(t *testing.T) {
	l := [][]byte{{1}, {2, 3}, {4}, {5}, {6}, {7}}
	have := []bool{true, true, false, false, true, false}
	before, kept := clone(l), slices.Clone(have)
	rs.Encode(l[:data])
	rs.Encode(l)
	rs.Verify(l)
	rs.Restore(l, have)
	rs.Restore(l[:5], have)
	rs.Locate(l)
	if !equal(l, before) || !slices.Equal(have, kept) {
		t.Errorf("an argument has changed: %v, %v", l, have)
	}
}

// The same memory is given several times here, and all rows of the results are equal.
func TestShardsOfAResultHaveMemoryOfTheirOwn(t *testing.T) {
	b := []byte{7, 8, 9}
	kept := bytes.Clone(b)
	shards := slices.Repeat([][]byte{b}, all)
	parity, e := rs.Encode(shards[:data])
	checkShards(t, "Encode", parity, e, [][]byte{kept, kept})
	spoil(parity[:1])
	checkShards(t, "the other row", parity[1:], e, [][]byte{kept})
	for number := range 1 << all {
		have, count := members(number)
		if count < data {
			continue
		}
		out, e := rs.Restore(shards, have)
		for i := range all {
			checkShards(t, "the rows left", out[i:], e, slices.Repeat([][]byte{kept}, all-i))
			spoil(out[i : i+1])
		}
	}
	if !bytes.Equal(b, kept) {
		t.Errorf("the argument has changed: %v", b)
	}
}

func TestCallsLeaveNoTrace(t *testing.T) {
	r := rand.New(rand.NewSource(25))
	l := randomSealed(r, 8)
	bad := clone(l)
	damage(r, bad[2])
	have := []bool{true, false, true, true, false, true}
	made := func() [][]byte {
		parity, _ := rs.Encode(l[:data])
		restored, _ := rs.Restore(l, have)
		i, _ := rs.Locate(bad)
		return slices.Concat([][]byte{rs.Code().E, {byte(i)}}, parity, restored)
	}
	first := made()
	kept := clone(first)
	spoil(first)
	spoil([][]byte{rs.Code().E})
	rs.Restore(randomRows(r, all, 8), make([]bool, all))
	rs.Encode(randomRows(r, data, 3))
	rs.Locate(randomRows(r, all, 3))
	if !equal(made(), kept) {
		t.Error("a call depends on earlier calls or on what became of their results")
	}
}
