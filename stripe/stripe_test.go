package stripe_test

import (
	"bytes"
	"math"
	"math/rand"
	"slices"
	"testing"

	"needlestore/api"
	"needlestore/stripe"
)

// The numbers are written out, so that changed constants are noticed.
const (
	block   = 64
	data    = 4
	row     = 256
	maxFile = 1 << 20
	maxOff  = 1 << 62
)

// volume returns n bytes. None of them is 0, so none is like those behind the last one.
func volume(r *rand.Rand, n int) []byte {
	b := make([]byte, n)
	for i := range b {
		b[i] = byte(1 + r.Intn(255))
	}
	return b
}

// divided is 5.1 word for word: bytes 0 until all shards have the same number of
// blocks, then one block after the other, each for the shard whose turn it is.
func divided(b []byte) [][]byte {
	padded := bytes.Clone(b)
	for len(padded)%row != 0 {
		padded = append(padded, 0)
	}
	l := make([][]byte, data)
	for k := range len(padded) / block {
		l[k%data] = append(l[k%data], padded[k*block:(k+1)*block]...)
	}
	return l
}

// place is the place of a byte of 5.1, in the bits of its offset: block and row
// have powers of 2 as their lengths.
func place(off int64) (shard int, at int64) {
	return int(off >> 6 & 3), off>>8<<6 | off&63
}

// pieces is 5.4 byte by byte: each byte lengthens the piece before it, or begins
// a new one where a block begins.
func pieces(off, n int64) []stripe.Piece {
	var l []stripe.Piece
	for x := off; x < off+n; x++ {
		if x == off || x%block == 0 {
			shard, at := place(x)
			l = append(l, stripe.Piece{Shard: shard, At: at})
		}
		l[len(l)-1].Len++
	}
	return l
}

// lengths returns the lengths of volumes: all of the first rows, and those
// around multiples of a block and a row up to the greatest file.
func lengths() []int {
	var l []int
	for n := range 5*row + 2 {
		l = append(l, n)
	}
	for _, n := range []int{33 * block, 34 * block, 35 * block, 9 * row, 100 * row, 1<<16 - row, maxFile - block, maxFile} {
		l = append(l, n-1, n, n+1)
	}
	return l
}

func equal(a, b [][]byte) bool { return slices.EqualFunc(a, b, bytes.Equal) }

func clone(l [][]byte) [][]byte {
	out := make([][]byte, len(l))
	for i, b := range l {
		out[i] = bytes.Clone(b)
	}
	return out
}

func checkSize(t *testing.T, n, want int64) {
	t.Helper()
	if s := stripe.Size(n); s != want {
		t.Errorf("Size(%d) = %d, want %d", n, s, want)
	}
}

func checkPlace(t *testing.T, off int64, shard int, at int64, want api.Errno) {
	t.Helper()
	if s, a, e := stripe.Place(off); s != shard || a != at || e != want {
		t.Errorf("Place(%d) = %d, %d, error %d, want %d, %d, error %d", off, s, a, e, shard, at, want)
	}
}

func checkPieces(t *testing.T, off, n int64, want []stripe.Piece) {
	t.Helper()
	if l, e := stripe.Pieces(off, n); e != api.OK || !slices.Equal(l, want) {
		t.Errorf("Pieces(%d, %d) = %v, error %d, want %v", off, n, l, e, want)
	}
}

func checkNoPieces(t *testing.T, off, n int64) {
	t.Helper()
	if l, e := stripe.Pieces(off, n); e != api.ErrArg || len(l) != 0 {
		t.Errorf("Pieces(%d, %d) = %v, error %d, want error %d and no pieces", off, n, l, e, api.ErrArg)
	}
}

func checkJoin(t *testing.T, what string, l [][]byte, n int64, want []byte) {
	t.Helper()
	if b, e := stripe.Join(l, n); e != api.OK || !bytes.Equal(b, want) {
		t.Errorf("%s: Join of %d shards to %d bytes: %d bytes, error %d, or other bytes", what, len(l), n, len(b), e)
	}
}

func checkNoJoin(t *testing.T, what string, l [][]byte, n int64) {
	t.Helper()
	if b, e := stripe.Join(l, n); e != api.ErrArg || len(b) != 0 {
		t.Errorf("%s: Join of %d shards to %d bytes: %d bytes, error %d, want error %d", what, len(l), n, len(b), e, api.ErrArg)
	}
}

// The chapter's examples.

func TestExamples(t *testing.T) {
	checkSize(t, 0, 0)
	checkSize(t, 1, 64)
	checkSize(t, 256, 64)
	checkSize(t, 257, 128)
	checkPlace(t, 64, 1, 0, api.OK)
	checkPlace(t, 256, 0, 64, api.OK)
	checkPieces(t, 60, 8, []stripe.Piece{{Shard: 0, At: 60, Len: 4}, {Shard: 1, At: 0, Len: 4}})
}

// Promise 5.1.

func TestSizeOfAllShortVolumes(t *testing.T) {
	var want int64
	for n := range int64(10*row + 3) {
		if n > want/block*row {
			want += block
		}
		checkSize(t, n, want)
	}
}

func TestSizeOfNegativeNumbers(t *testing.T) {
	for n := range int64(600) {
		checkSize(t, -n, 0)
		checkSize(t, math.MinInt64+n, 0)
		checkSize(t, -(1<<40)-n, 0)
	}
}

// The rows are just enough: k of them have all n bytes, one less has not.
func TestSizeIsTheLeast(t *testing.T) {
	numbers := []int64{math.MaxInt64}
	for n := range int64(600) {
		numbers = append(numbers, math.MaxInt64-n, math.MaxInt64/2+300-n, math.MaxInt64/4+300-n)
	}
	for bit := range 62 {
		for d := int64(-2); d <= 2; d++ {
			numbers = append(numbers, max(1, 1<<bit+d), max(1, 3*(1<<bit/row*row)+d))
		}
	}
	for _, n := range numbers {
		s := stripe.Size(n)
		k := uint64(s) / block
		if s <= 0 || s%block != 0 || k*row < uint64(n) || (k-1)*row >= uint64(n) {
			t.Errorf("Size(%d) = %d", n, s)
		}
	}
	checkSize(t, math.MaxInt64, 1<<61)
	checkSize(t, math.MaxInt64-255, 1<<61-64)
	checkSize(t, math.MaxInt64-254, 1<<61)
	checkSize(t, maxOff, 1<<60)
	checkSize(t, maxOff+1, 1<<60+64)
}

// The bytes that a shard has are those of its blocks.
func TestSplitDistributesBlocks(t *testing.T) {
	var b []byte
	for k := range 11 {
		b = append(b, bytes.Repeat([]byte{byte(k + 1)}, block)...)
	}
	want := make([][]byte, data)
	for i, blocks := range [][]byte{{1, 5, 9}, {2, 6, 10}, {3, 7, 11}, {4, 8, 0}} {
		for _, x := range blocks {
			want[i] = append(want[i], bytes.Repeat([]byte{x}, block)...)
		}
	}
	if l := stripe.Split(b); !equal(l, want) {
		t.Errorf("%v, want %v", l, want)
	}
}

func TestBytesBehindTheLastOneAreZero(t *testing.T) {
	for n := range 3 * row {
		sum, bytesNotZero := 0, 0
		for _, shard := range stripe.Split(bytes.Repeat([]byte{255}, n)) {
			sum += len(shard)
			bytesNotZero += len(shard) - bytes.Count(shard, []byte{0})
		}
		if sum%row != 0 || sum < n || sum >= n+row || bytesNotZero != n {
			t.Errorf("%d bytes: %d in the shards, %d not 0", n, sum, bytesNotZero)
		}
	}
}

// Promise 5.2.

func TestSplit(t *testing.T) {
	r := rand.New(rand.NewSource(1))
	for _, n := range lengths() {
		b := volume(r, n)
		l := stripe.Split(b)
		if len(l) != data || !equal(l, divided(b)) {
			t.Fatalf("%d bytes: %d shards, or other bytes", n, len(l))
		}
		for i, shard := range l {
			checkSize(t, int64(n), int64(len(shard)))
			if len(shard) != len(l[0]) || len(shard)%block != 0 {
				t.Errorf("%d bytes: shard %d has %d", n, i, len(shard))
			}
		}
	}
}

func TestSplitOfNoBytes(t *testing.T) {
	for _, b := range [][]byte{nil, {}} {
		if l := stripe.Split(b); !equal(l, make([][]byte, data)) {
			t.Errorf("%v", l)
		}
	}
}

// Zeros at the end of a volume are bytes like others.
func TestSplitOfZeros(t *testing.T) {
	for n := range 2*row + 2 {
		l := stripe.Split(make([]byte, n))
		want := bytes.Repeat([]byte{0}, int(stripe.Size(int64(n))))
		if !equal(l, [][]byte{want, want, want, want}) {
			t.Errorf("%d zeros: %v", n, l)
		}
	}
}

func TestJoin(t *testing.T) {
	r := rand.New(rand.NewSource(2))
	for _, n := range lengths() {
		b := volume(r, n)
		l := divided(b)
		checkJoin(t, "four shards", l, int64(n), b)
		for _, more := range [][][]byte{{nil}, {{1}}, {l[0], l[1]}, {volume(r, 64), nil, volume(r, len(l[0])+64)}} {
			checkJoin(t, "more shards", slices.Concat(l, more), int64(n), b)
		}
	}
}

// What stands behind the first n bytes is not examined and has no part in the result.
func TestJoinLeavesOutTheBytesBehind(t *testing.T) {
	r := rand.New(rand.NewSource(3))
	for _, rows := range []int{1, 2, 5} {
		b := volume(r, rows*row)
		l := divided(b)
		for n := (rows-1)*row + 1; n <= rows*row; n++ {
			checkJoin(t, "no zeros behind", l, int64(n), b[:n])
		}
		checkNoJoin(t, "a row less", l, int64((rows-1)*row))
		checkNoJoin(t, "a row more", l, int64(rows*row+1))
	}
}

func TestJoinToNoBytes(t *testing.T) {
	for n := data; n < 10; n++ {
		checkJoin(t, "no bytes", make([][]byte, n), 0, nil)
	}
	checkJoin(t, "no bytes", [][]byte{nil, {}, nil, {}, {1}}, 0, nil)
	checkNoJoin(t, "a row", divided([]byte{1}), 0)
}

func TestJoinTooFewShards(t *testing.T) {
	r := rand.New(rand.NewSource(4))
	for _, n := range []int{0, 1, 64, 65, 256, 257, 1000} {
		l := divided(volume(r, n))
		for i := range data {
			checkNoJoin(t, "too few shards", l[:i], int64(n))
			checkNoJoin(t, "too few shards of no bytes", make([][]byte, i), int64(n))
		}
	}
	checkNoJoin(t, "no shards", nil, 0)
	checkNoJoin(t, "no shards and a negative number", nil, -1)
}

func TestJoinNegativeNumber(t *testing.T) {
	r := rand.New(rand.NewSource(5))
	for _, n := range []int64{-1, -63, -64, -65, -255, -256, -257, -1000, -(1 << 40), math.MinInt64, math.MinInt64 + 1} {
		for _, l := range [][][]byte{make([][]byte, data), make([][]byte, data+1), divided(volume(r, 1)), divided(volume(r, 257))} {
			checkNoJoin(t, "a negative number", l, n)
		}
	}
}

// A shard of another length is an error also where its bytes would be enough.
func TestJoinAnotherLength(t *testing.T) {
	r := rand.New(rand.NewSource(6))
	for _, n := range []int{0, 1, 63, 64, 65, 192, 193, 255, 256, 257, 500} {
		l := divided(volume(r, n))
		size := len(l[0])
		for number := 1; number < 1<<data; number++ {
			for _, length := range []int{0, 1, size - 64, size - 1, size + 1, size + 64, 2 * size} {
				if length < 0 || length == size {
					continue
				}
				other := clone(l)
				for i := range other {
					if number>>i&1 == 1 {
						other[i] = volume(r, length)
					}
				}
				checkNoJoin(t, "another length", other, int64(n))
				checkNoJoin(t, "another length, and two more shards", slices.Concat(other, l[:2]), int64(n))
			}
		}
	}
}

func TestJoinVeryLargeNumber(t *testing.T) {
	l := divided(volume(rand.New(rand.NewSource(7)), 100))
	for n := range int64(600) {
		for _, large := range []int64{math.MaxInt64 - n, 1<<40 - n, 1<<32 + 300 - n, maxOff + 300 - n} {
			checkNoJoin(t, "a very large number", l, large)
			checkNoJoin(t, "a very large number", make([][]byte, data), large)
		}
	}
}

// Promise 5.3.

// Each byte is the next one of its shard.
func TestPlaceCounts(t *testing.T) {
	var count [data]int64
	for off := range int64(9*row + 100) {
		shard := int(off / block % data)
		checkPlace(t, off, shard, count[shard], api.OK)
		count[shard]++
	}
}

func TestPlaceOfEndsOfBlocks(t *testing.T) {
	for _, c := range []struct {
		off   int64
		shard int
		at    int64
	}{
		{0, 0, 0}, {63, 0, 63}, {64, 1, 0}, {127, 1, 63}, {128, 2, 0}, {191, 2, 63}, {192, 3, 0}, {255, 3, 63},
		{256, 0, 64}, {319, 0, 127}, {320, 1, 64}, {511, 3, 127}, {512, 0, 128}, {maxFile - 1, 3, 1<<18 - 1}, {maxFile, 0, 1 << 18},
		{1 << 32, 0, 1 << 30}, {1<<32 - 1, 3, 1<<30 - 1}, {maxOff - 1, 3, 1<<60 - 1}, {maxOff, 0, 1 << 60},
		{maxOff + 64, 1, 1 << 60}, {maxOff + 63, 0, 1<<60 + 63}, {math.MaxInt64, 3, 1<<61 - 1},
		{math.MaxInt64 - 63, 3, 1<<61 - 64}, {math.MaxInt64 - 64, 2, 1<<61 - 1}, {math.MaxInt64 - 255, 0, 1<<61 - 64},
	} {
		checkPlace(t, c.off, c.shard, c.at, api.OK)
	}
}

func TestPlaceOfAnyOffset(t *testing.T) {
	r := rand.New(rand.NewSource(8))
	for range 20000 {
		off := r.Int63() >> r.Intn(63)
		shard, at := place(off)
		checkPlace(t, off, shard, at, api.OK)
	}
}

func TestPlaceNegative(t *testing.T) {
	for n := int64(1); n < 600; n++ {
		checkPlace(t, -n, 0, 0, api.ErrArg)
		checkPlace(t, -n<<40, 0, 0, api.ErrArg)
		checkPlace(t, math.MinInt64+n-1, 0, 0, api.ErrArg)
	}
}

// Promise 5.4.

func TestPiecesInsideABlock(t *testing.T) {
	for k := range int64(2 * data) {
		shard, at := int(k%data), k/data*block
		checkPieces(t, k*block, 64, []stripe.Piece{{Shard: shard, At: at, Len: 64}})
		checkPieces(t, k*block, 1, []stripe.Piece{{Shard: shard, At: at, Len: 1}})
		checkPieces(t, k*block, 63, []stripe.Piece{{Shard: shard, At: at, Len: 63}})
		checkPieces(t, k*block+1, 63, []stripe.Piece{{Shard: shard, At: at + 1, Len: 63}})
		checkPieces(t, k*block+63, 1, []stripe.Piece{{Shard: shard, At: at + 63, Len: 1}})
		checkPieces(t, k*block+20, 30, []stripe.Piece{{Shard: shard, At: at + 20, Len: 30}})
	}
}

func TestPiecesOverBlocks(t *testing.T) {
	checkPieces(t, 63, 2, []stripe.Piece{{Shard: 0, At: 63, Len: 1}, {Shard: 1, At: 0, Len: 1}})
	checkPieces(t, 255, 2, []stripe.Piece{{Shard: 3, At: 63, Len: 1}, {Shard: 0, At: 64, Len: 1}})
	checkPieces(t, 100, 100, []stripe.Piece{{Shard: 1, At: 36, Len: 28}, {Shard: 2, At: 0, Len: 64}, {Shard: 3, At: 0, Len: 8}})
	checkPieces(t, 130, 254, []stripe.Piece{{Shard: 2, At: 2, Len: 62}, {Shard: 3, At: 0, Len: 64}, {Shard: 0, At: 64, Len: 64}, {Shard: 1, At: 64, Len: 64}})
	checkPieces(t, 192, 128, []stripe.Piece{{Shard: 3, At: 0, Len: 64}, {Shard: 0, At: 64, Len: 64}})
}

func TestPiecesOfAllShortRanges(t *testing.T) {
	for off := range int64(row + block + 1) {
		for n := range int64(row + block + 2) {
			checkPieces(t, off, n, pieces(off, n))
		}
	}
}

func TestPiecesOfNoBytes(t *testing.T) {
	for off := range int64(3 * row) {
		checkPieces(t, off, 0, nil)
		checkPieces(t, maxOff-off, 0, nil)
	}
}

func TestPiecesAtTheLimits(t *testing.T) {
	for _, off := range []int64{0, 1, 63, 64, 255, 256, 1 << 32, maxOff - 257, maxOff - 64, maxOff - 1, maxOff} {
		for _, n := range []int64{0, 1, 2, 63, 64, 65, 256, maxFile - 64, maxFile - 1, maxFile} {
			checkPieces(t, off, n, pieces(off, n))
		}
	}
	checkPieces(t, maxOff, 1, []stripe.Piece{{Shard: 0, At: 1 << 60, Len: 1}})
	checkPieces(t, maxOff-1, 2, []stripe.Piece{{Shard: 3, At: 1<<60 - 1, Len: 1}, {Shard: 0, At: 1 << 60, Len: 1}})
}

func TestPiecesBeyondTheLimits(t *testing.T) {
	badOffs := []int64{-1, -2, -64, -256, -maxOff, math.MinInt64, maxOff + 1, maxOff + 2, maxOff + 256, math.MaxInt64 - maxFile, math.MaxInt64}
	badNumbers := []int64{-1, -2, -64, -maxFile, math.MinInt64, maxFile + 1, maxFile + 64, 1 << 32, maxOff, math.MaxInt64}
	for _, off := range badOffs {
		for _, n := range slices.Concat(badNumbers, []int64{0, 1, 64, maxFile}) {
			checkNoPieces(t, off, n)
		}
	}
	for _, n := range badNumbers {
		for _, off := range []int64{0, 1, 64, 1000, maxOff - 1, maxOff} {
			checkNoPieces(t, off, n)
		}
	}
}

// Any number that is in range is accepted, and the pieces have all the bytes.
func TestPiecesOfRandomRanges(t *testing.T) {
	r := rand.New(rand.NewSource(9))
	for range 300 {
		off := r.Int63n(maxOff+1) >> r.Intn(62)
		n := r.Int63n(maxFile+1) >> r.Intn(20)
		checkPieces(t, off, n, pieces(off, n))
	}
}

// Promise 5.5.

func TestJoiningTheShardsRestoresTheVolume(t *testing.T) {
	r := rand.New(rand.NewSource(10))
	for _, n := range lengths() {
		for _, b := range [][]byte{volume(r, n), make([]byte, n)} {
			checkJoin(t, "the shards of Split", stripe.Split(b), int64(n), b)
		}
	}
}

// read returns the bytes of the pieces, one after the other.
func read(t *testing.T, shards [][]byte, off, n int64) []byte {
	t.Helper()
	l, e := stripe.Pieces(off, n)
	if e != api.OK {
		t.Fatalf("Pieces(%d, %d): error %d", off, n, e)
	}
	var out []byte
	for _, p := range l {
		out = append(out, shards[p.Shard][p.At:p.At+p.Len]...)
	}
	return out
}

func TestThePiecesAreTheBytesOfTheRange(t *testing.T) {
	b := volume(rand.New(rand.NewSource(11)), 2*row+70)
	shards := stripe.Split(b)
	for off := range len(b) + 1 {
		for end := off; end <= len(b); end++ {
			if out := read(t, shards, int64(off), int64(end-off)); !bytes.Equal(out, b[off:end]) {
				t.Fatalf("from %d to %d: %v, want %v", off, end, out, b[off:end])
			}
		}
	}
}

func TestThePiecesOfALargeVolume(t *testing.T) {
	r := rand.New(rand.NewSource(12))
	b := volume(r, maxFile)
	shards := stripe.Split(b)
	if !bytes.Equal(read(t, shards, 0, maxFile), b) {
		t.Error("the whole volume: other bytes")
	}
	for range 100 {
		off := r.Intn(maxFile)
		n := r.Intn(maxFile - off + 1)
		if !bytes.Equal(read(t, shards, int64(off), int64(n)), b[off:off+n]) {
			t.Errorf("%d bytes from %d on: other bytes", n, off)
		}
	}
}

// The byte at each offset is where Place says, and the pieces are there too.
func TestPlaceAgreesWithSplit(t *testing.T) {
	b := volume(rand.New(rand.NewSource(13)), 5*row+33)
	shards := stripe.Split(b)
	for off, x := range b {
		shard, at, e := stripe.Place(int64(off))
		if e != api.OK || shards[shard][at] != x {
			t.Fatalf("Place(%d) = %d, %d, error %d: not the byte", off, shard, at, e)
		}
		checkPieces(t, int64(off), 1, []stripe.Piece{{Shard: shard, At: at, Len: 1}})
	}
}

// Rules R3 and R4, and rule 7 of LANGUAGE.md.

// spoil changes all bytes of l, and those behind them that an append reaches.
func spoil(l [][]byte) {
	for _, b := range l {
		for i := range b[:cap(b)] {
			b[:cap(b)][i] ^= 255
		}
	}
}

// roomy returns a copy of b with room behind it, and all its memory.
func roomy(b []byte) (part, memory []byte) {
	memory = append(bytes.Clone(b), 1, 2, 3)
	return memory[:len(b)], memory
}

func TestArgumentsStay(t *testing.T) {
	r := rand.New(rand.NewSource(14))
	for _, n := range []int{0, 1, 63, 64, 65, 255, 256, 257, 1000} {
		b := volume(r, n)
		part, memory := roomy(b)
		before := bytes.Clone(memory)
		spoil(stripe.Split(part))
		if !bytes.Equal(memory, before) {
			t.Errorf("%d bytes: Split or its result changes the argument", n)
		}
		shards, all := make([][]byte, data+2), make([][]byte, data+2)
		for i, shard := range append(divided(b), volume(r, 10), nil) {
			shards[i], all[i] = roomy(shard)
		}
		kept, keptAll := clone(shards), clone(all)
		for _, m := range []int64{int64(n), int64(n) + row, -1, math.MaxInt64} {
			out, _ := stripe.Join(shards[:data+1], m)
			spoil([][]byte{out})
		}
		if !equal(shards, kept) || !equal(all, keptAll) {
			t.Errorf("%d bytes: Join or its result changes the argument", n)
		}
	}
}

func TestShardsHaveMemoryOfTheirOwn(t *testing.T) {
	r := rand.New(rand.NewSource(15))
	for _, n := range []int{1, 64, 100, 256, 257, 700} {
		b := volume(r, n)
		l, want := stripe.Split(b), divided(b)
		for i := range l {
			if !equal(l[i:], want[i:]) {
				t.Fatalf("%d bytes: the shards from %d on have changed with another one", n, i)
			}
			spoil(l[i : i+1])
		}
	}
}

// The same memory may be given several times.
func TestJoinOfOneShardFourTimes(t *testing.T) {
	b := volume(rand.New(rand.NewSource(16)), block)
	kept := bytes.Clone(b)
	checkJoin(t, "the same shard", [][]byte{b, b, b, b, b}, row, bytes.Repeat(kept, data))
	if !bytes.Equal(b, kept) {
		t.Error("the argument has changed")
	}
}

func TestCallsLeaveNoTrace(t *testing.T) {
	r := rand.New(rand.NewSource(17))
	b := volume(r, 600)
	made := func() ([][]byte, []stripe.Piece) {
		whole, _ := stripe.Join(divided(b), 600)
		l, _ := stripe.Pieces(50, 500)
		return append(stripe.Split(b), whole), l
	}
	first, l := made()
	kept, keptPieces := clone(first), slices.Clone(l)
	spoil(first)
	clear(l)
	stripe.Split(volume(r, 1000))
	stripe.Join(divided(volume(r, 100)), 100)
	stripe.Pieces(51, 400)
	stripe.Pieces(-1, 400)
	if again, pieces := made(); !equal(again, kept) || !slices.Equal(pieces, keptPieces) {
		t.Error("a call depends on earlier calls or on what became of their results")
	}
}
