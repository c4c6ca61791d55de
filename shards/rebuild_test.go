package shards_test

import (
	"bytes"
	"encoding/binary"
	"math"
	"math/bits"
	"math/rand"
	"slices"
	"testing"

	"needlestore/api"
	"needlestore/shards"
	"needlestore/stripe"
)

// sealedBytes returns a dat file of n bytes, its shards and its head.
func sealedBytes(t *testing.T, r *rand.Rand, n int) ([]byte, [][]byte, head) {
	t.Helper()
	dat := anyBytes(r, n)
	l, h := checkMake(t, "any bytes", dat, anySuper(r), anyItems(r, 4, int64(n)))
	if len(l) != number {
		t.Fatalf("%d shards", len(l))
	}
	return dat, l, h
}

// someLengths are lengths of dat files with shards of one block, two and more.
var someLengths = []int{16, 17, 63, 64, 65, 255, 256, 257, 511, 512, 513, 600, 1024, 1025, 5000}

// collided returns b with other bits, but with the same checksum: those that are
// changed, from a bit on, are the polynomial itself.
func collided(b []byte, from int) []byte {
	b = bytes.Clone(b)
	for i := range 33 {
		if polynomial := uint64(0x82f63b78)<<1 | 1; polynomial>>i&1 == 1 {
			b[(from+i)/8] ^= 1 << ((from + i) % 8)
		}
	}
	return b
}

// Promise 17.4.

func TestGoodOfEachNumber(t *testing.T) {
	r := rand.New(rand.NewSource(21))
	numbers := []int{math.MinInt64, math.MinInt32, -256, -7, -6, -5, -4, -3, -2, -1, 6, 7, 8, 11, 12, 255, 256, 1 << 32, 1<<32 + 1, math.MaxInt64}
	for _, n := range someLengths {
		_, l, h := sealedBytes(t, r, n)
		for k, b := range l {
			for i := range number {
				checkGood(t, "a shard", h, i, b, sum(b) == h.Sums[i])
			}
			checkGood(t, "the shard itself", h, k, b, true)
			for _, i := range numbers {
				checkGood(t, "no number of a shard", h, i, b, false)
			}
		}
	}
}

// Each length has a checksum that fits.
func TestGoodOfEachLength(t *testing.T) {
	r := rand.New(rand.NewSource(22))
	for _, n := range []int64{16, 255, 256, 257, 512, 513} {
		h := head{Super: api.Super{Gen: 1}, Len: n}
		for length := range 400 {
			b := anyBytes(r, length)
			i := r.Intn(number)
			h.Sums[i] = sum(b)
			checkGood(t, "a length", h, i, b, int64(length) == width(n))
		}
	}
	_, l, h := sealedBytes(t, r, 600)
	for i, b := range l {
		for k := range b {
			checkGood(t, "cut", h, i, b[:k], false)
		}
		checkGood(t, "a byte behind", h, i, append(bytes.Clone(b), 0), false)
		checkGood(t, "no bytes", h, i, nil, false)
	}
}

func TestGoodOfTheGreatestLength(t *testing.T) {
	l, h := zeros(greatest())
	checkGood(t, "the greatest length", h, 5, l[5], true)
	checkGood(t, "one byte less", h, 5, l[5][1:], false)
}

func TestGoodOfEveryOtherByte(t *testing.T) {
	_, l, h := sealedBytes(t, rand.New(rand.NewSource(23)), 500)
	for i, b := range l {
		for k := range b {
			for x := range 256 {
				checkGood(t, "another byte", h, i, with(b, k, byte(x)), byte(x) == b[k])
			}
		}
	}
}

// The whole checksum counts.
func TestGoodOfEveryOtherChecksum(t *testing.T) {
	_, l, h := sealedBytes(t, rand.New(rand.NewSource(24)), 500)
	for i, b := range l {
		for k := range number {
			for bit := range 32 {
				other := h
				other.Sums[k] ^= 1 << bit
				checkGood(t, "another checksum", other, i, b, i != k)
			}
		}
	}
}

// Only the length and the checksum count.
func TestGoodOfOtherBytesWithTheSameChecksum(t *testing.T) {
	_, l, h := sealedBytes(t, rand.New(rand.NewSource(25)), 500)
	for i, b := range l {
		for from := range 8*len(b) - 32 {
			other := collided(b, from)
			if sum(other) != sum(b) || bytes.Equal(other, b) {
				t.Fatal("the checksum is another one")
			}
			checkGood(t, "the same checksum", h, i, other, true)
		}
	}
}

// The shards would be right but for the head.
func TestHeadsThatAreNotValid(t *testing.T) {
	for _, c := range append(badHeads(t), named{"no head", head{}}) {
		files := make([][]byte, number)
		if c.h.Len > 0 && c.h.Len <= 1<<21 {
			files, c.h = zeros(c.h)
		}
		for i, b := range files {
			checkGood(t, c.what, c.h, i, b, false)
		}
		checkRebuild(t, c.what, c.h, files, nil, nil, api.ErrArg)
		checkRebuild(t, c.what+", no files", c.h, nil, nil, nil, api.ErrArg)
	}
}

func TestRebuildOfEachNumberOfFiles(t *testing.T) {
	_, l, h := sealedBytes(t, rand.New(rand.NewSource(26)), 500)
	l = slices.Concat(l, l, make([][]byte, 3))
	for n := range l {
		if n != number {
			checkRebuild(t, "files", h, l[:n], nil, nil, api.ErrArg)
			checkRebuild(t, "files without bytes", h, make([][]byte, n), nil, nil, api.ErrArg)
		}
	}
}

// damages returns what a file may be: the shard, and others.
func damages(l [][]byte, i int) [][]byte {
	b := l[i]
	return [][]byte{b, nil, with(b, len(b)/2, b[len(b)/2]^16), l[(i+1)%number], b[:len(b)-1], append(bytes.Clone(b), 0), make([]byte, len(b))}
}

// Each file is one of four, in each combination.
func TestRebuildOfAllDamages(t *testing.T) {
	_, l, h := sealedBytes(t, rand.New(rand.NewSource(27)), 500)
	for set := range 1 << (2 * number) {
		files := make([][]byte, number)
		var bad []int
		for i := range files {
			kind := set >> (2 * i) & 3
			files[i] = damages(l, i)[kind]
			if kind > 0 {
				bad = append(bad, i)
			}
		}
		if len(bad) <= 2 {
			checkRebuild(t, "damages", h, files, l, bad, api.OK)
		} else {
			checkRebuild(t, "many damages", h, files, nil, nil, api.ErrUnavailable)
		}
	}
}

func TestRebuildOfAnyDamages(t *testing.T) {
	r := rand.New(rand.NewSource(28))
	for _, n := range someLengths {
		_, l, h := sealedBytes(t, r, n)
		for range 50 {
			files := slices.Clone(l)
			for range r.Intn(4) {
				i := r.Intn(number)
				kinds := damages(l, i)
				files[i] = kinds[r.Intn(len(kinds))]
			}
			checkRebuildLikeChapter(t, "damages", h, files)
		}
	}
}

// A file that is in another one's place is not Good, unless both are the same.
func TestRebuildOfFilesInOtherPlaces(t *testing.T) {
	r := rand.New(rand.NewSource(29))
	_, l, h := sealedBytes(t, r, 500)
	for range 300 {
		files := slices.Clone(l)
		r.Shuffle(2+r.Intn(5), func(i, k int) { files[i], files[k] = files[k], files[i] })
		checkRebuildLikeChapter(t, "files in other places", h, files)
	}
	_, l, h = sealedBytes(t, r, 30) // of one block: shards 1 to 3 have bytes 0 alone
	files := slices.Clone(l)
	files[1], files[2], files[3] = files[3], files[1], files[2]
	checkRebuild(t, "equal files in other places", h, files, l, nil, api.OK)
}

// Where a checksum of the head is another one, the file is not Good, and the
// shard that is restored does not have it either.
func TestRebuildWithOtherChecksums(t *testing.T) {
	_, l, h := sealedBytes(t, rand.New(rand.NewSource(30)), 500)
	for set := range 1 << number {
		other := h
		for i := range number {
			if set>>i&1 == 1 {
				other.Sums[i] ^= 1 << (5 * i)
			}
		}
		want := api.ErrCheck
		if bits.OnesCount(uint(set)) > 2 {
			want = api.ErrUnavailable
		}
		if set > 0 {
			checkRebuild(t, "other checksums", other, l, nil, nil, want)
		}
	}
}

// Each shard has the checksum of the head, but some are not those that belong to
// the others: all that are restored are examined, also those of files that are Good.
func TestRebuildOfShardsThatDoNotFit(t *testing.T) {
	r := rand.New(rand.NewSource(31))
	for i := range number {
		_, l, h := sealedBytes(t, r, 500)
		l[i] = anyBytes(r, len(l[i]))
		h.Sums = sums(l)
		for lost := range 1 << number {
			files := slices.Clone(l)
			for k := range files {
				if lost>>k&1 == 1 {
					files[k] = nil
				}
			}
			want := api.ErrCheck
			if bits.OnesCount(uint(lost)) > 2 {
				want = api.ErrUnavailable
			}
			checkRebuild(t, "a shard that does not fit", h, files, nil, nil, want)
		}
	}
}

// A damaged file with the checksum of its shard counts as Good. If it is not
// among the first four, its shard is rebuilt from the others all the same.
func TestRebuildOfFilesWithTheSameChecksum(t *testing.T) {
	r := rand.New(rand.NewSource(32))
	got := map[api.Errno]int{}
	for range 100 {
		_, l, h := sealedBytes(t, r, 500)
		for i := range number {
			files := slices.Clone(l)
			files[i] = collided(l[i], r.Intn(8*len(l[i])-32))
			for _, k := range r.Perm(number)[:r.Intn(3)] {
				files[k] = nil
			}
			if e := checkRebuildLikeChapter(t, "the same checksum", h, files); files[i] != nil {
				got[e]++
			}
		}
		files := slices.Clone(l)
		files[4], files[5] = collided(l[4], 7), collided(l[5], 99)
		checkRebuild(t, "the same checksum in both parity shards", h, files, l, nil, api.OK)
	}
	if got[api.OK] == 0 || got[api.ErrCheck] == 0 {
		t.Errorf("errors %v", got)
	}
}

// Any six shards that fit each other are rebuilt, whatever stands behind Len.
func TestRebuildOfOtherBytesBehindLen(t *testing.T) {
	r := rand.New(rand.NewSource(33))
	_, l, h := sealedBytes(t, r, 512)
	for _, n := range []int64{257, 300, 511} {
		h.Len, h.Items = n, nil
		files := slices.Clone(l)
		files[r.Intn(3)], files[3+r.Intn(3)] = nil, nil
		if e := checkRebuildLikeChapter(t, "bytes behind Len", h, files); e != api.OK {
			t.Errorf("error %d", e)
		}
	}
}

// Promise 17.5.

// Whatever the other files are, four that are undamaged are enough.
func TestAnyFourShardsAreEnough(t *testing.T) {
	r := rand.New(rand.NewSource(34))
	for _, n := range append(someLengths, 100000, most) {
		dat, l, h := sealedBytes(t, r, n)
		for have := range 1 << number {
			if bits.OnesCount(uint(have)) < 4 || n > 10000 && have != 0b111100 && have != 0b010111 {
				continue
			}
			files, bad := slices.Clone(l), []int(nil)
			for i := range files {
				if have>>i&1 == 0 {
					files[i], bad = anyBytes(r, r.Intn(2)*len(l[i])), append(bad, i)
				}
			}
			checkRebuild(t, "four shards", h, files, l, bad, api.OK)
			all, _, _ := shards.Rebuild(h, files)
			if b, e := stripe.Join(all, int64(n)); e != api.OK || !bytes.Equal(b, dat) {
				t.Errorf("%d bytes, without %v: the dat file is another one, error %d", n, bad, e)
			}
		}
	}
}

func TestThreeShardsAreNotEnough(t *testing.T) {
	r := rand.New(rand.NewSource(35))
	for _, n := range someLengths {
		_, l, h := sealedBytes(t, r, n)
		for have := range 1 << number {
			files := slices.Clone(l)
			for i := range files {
				if have>>i&1 == 0 {
					files[i] = nil
				}
			}
			if bits.OnesCount(uint(have)) < 4 {
				checkRebuild(t, "three shards", h, files, nil, nil, api.ErrUnavailable)
			}
		}
	}
}

// The head is found in its index file, and with it the shards are rebuilt.
func TestRebuildWithTheIndexFile(t *testing.T) {
	r := rand.New(rand.NewSource(36))
	for _, n := range someLengths {
		_, l, h := sealedBytes(t, r, n)
		b, _ := shards.Encode(h)
		read, e := shards.Decode(b)
		if e != api.OK {
			t.Fatalf("error %d", e)
		}
		files := slices.Clone(l)
		files[1], files[4] = flipped(l[1], r), nil
		checkRebuild(t, "with the index file", read, files, l, []int{1, 4}, api.OK)
	}
}

// burst returns b with the first and the last bit of a range changed, and those
// between them that inner names. Bits are counted as in 1.4, in each byte from the
// least significant one: counted from the other end, 32 consecutive bits may span
// 40, and 17.5 would not hold for all of them.
func burst(b []byte, from, length int, inner uint32) []byte {
	b = bytes.Clone(b)
	for i := range length {
		if bit := from + i; i == 0 || i == length-1 || inner>>i&1 == 1 {
			b[bit/8] ^= 1 << (bit % 8)
		}
	}
	return b
}

// flipped returns b with up to 32 consecutive bits changed, at least one.
func flipped(b []byte, r *rand.Rand) []byte {
	length := 1 + r.Intn(32)
	return burst(b, r.Intn(8*len(b)-length+1), length, r.Uint32())
}

// bursts calls f with b after each change of a run of up to 32 bits, in three patterns.
func bursts(b []byte, r *rand.Rand, f func(from, length int, other []byte)) {
	for from := range 8 * len(b) {
		for length := 1; length <= 32 && from+length <= 8*len(b); length++ {
			for _, inner := range []uint32{math.MaxUint32, 0, r.Uint32()} {
				f(from, length, burst(b, from, length, inner))
			}
		}
	}
}

func TestEveryShortBurstInAShardIsNoticed(t *testing.T) {
	r := rand.New(rand.NewSource(37))
	for _, n := range []int{200, 300} {
		_, l, h := sealedBytes(t, r, n)
		for i, b := range l {
			bursts(b, r, func(from, length int, other []byte) {
				if shards.Good(h, i, other) {
					t.Errorf("shard %d: %d bits from %d on: Good", i, length, from)
				}
			})
		}
	}
}

// Up to two shards with such changes are rebuilt, and named.
func TestBurstsInShardsAreRepaired(t *testing.T) {
	r := rand.New(rand.NewSource(38))
	for range 2000 {
		_, l, h := sealedBytes(t, r, 16+r.Intn(1500))
		files := slices.Clone(l)
		bad := r.Perm(number)[:r.Intn(3)]
		for _, i := range bad {
			files[i] = flipped(l[i], r)
		}
		slices.Sort(bad)
		checkRebuild(t, "bursts", h, files, l, bad, api.OK)
	}
}

// A change in the number of items, which 17.5 leaves out, is noticed too, as the
// length of the file does not fit.
func TestEveryShortBurstInAnIndexIsNoticed(t *testing.T) {
	r := rand.New(rand.NewSource(39))
	for _, h := range []head{some(), smallest(), greatest()} {
		b, _ := shards.Encode(h)
		if len(b) < fixed {
			t.Fatalf("%d bytes", len(b))
		}
		bursts(b, r, func(from, length int, other []byte) {
			h, e := shards.Decode(other)
			if e == api.OK || !same(h, head{}) {
				t.Errorf("%d bits from %d on: %v, error %d", length, from, h, e)
			}
		})
	}
}

func TestEveryPatternOfAVeryShortBurst(t *testing.T) {
	_, l, h := sealedBytes(t, rand.New(rand.NewSource(40)), 100)
	b, _ := shards.Encode(h)
	for length := 1; length <= 8; length++ {
		for inner := uint32(0); inner < 1<<length; inner += 2 {
			for from := range 8*len(b) - length + 1 {
				if h, e := shards.Decode(burst(b, from, length, inner)); e == api.OK {
					t.Errorf("%d bits from %d on, pattern %#x: %v", length, from, inner, h)
				}
			}
			for from := range 8*len(l[4]) - length + 1 {
				checkGood(t, "a burst", h, 4, burst(l[4], from, length, inner), false)
			}
		}
	}
}

// The effects of changes add up, so no change of 32 bits goes unnoticed if the
// effects of the single bits are linearly independent: this covers all patterns.
// Those in a data shard are found in the checksum that Make gives it.
func TestBitsOfAWindowAreIndependent(t *testing.T) {
	dat, _, h := sealedBytes(t, rand.New(rand.NewSource(41)), 256)
	for i := range 4 {
		var effects []uint32
		for bit := range 8 * block {
			_, other, _ := shards.Make(burst(dat, 8*block*i+bit, 1, 0), h.Super, nil)
			effects = append(effects, other.Sums[i]^h.Sums[i])
		}
		checkIndependent(t, "a data shard", effects)
	}
	b, _ := shards.Encode(some())
	end := len(b) - 4
	var effects []uint32
	for bit := range 8 * len(b) {
		other := burst(b, bit, 1, 0)
		effects = append(effects, sum(other[:end])^binary.LittleEndian.Uint32(other[end:]))
	}
	checkIndependent(t, "an index file", effects)
}

func checkIndependent(t *testing.T, what string, effects []uint32) {
	t.Helper()
	for from := range len(effects) - 31 {
		if !independent(effects[from : from+32]) {
			t.Errorf("%s: from bit %d on: not independent", what, from)
		}
	}
}

// independent reports whether no choice of numbers of l adds up to 0. What is
// left of each number has none of the leading bits of those before it.
func independent(l []uint32) bool {
	var rests []uint32
	for _, v := range l {
		for _, rest := range rests {
			v = min(v, v^rest)
		}
		if v == 0 {
			return false
		}
		rests = append(rests, v)
	}
	return true
}

// Rules R3 and R4, and rule 7 of LANGUAGE.md.

// The memory of the arguments goes on behind them.
func TestArgumentsStay(t *testing.T) {
	r := rand.New(rand.NewSource(42))
	for range 50 {
		dat := anyBytes(r, 700)
		items := append(anyItems(r, 5, 600), api.Item{Key: 1}, api.Item{Key: 2})
		keptDat, keptItems := bytes.Clone(dat), slices.Clone(items)
		l, h, _ := shards.Make(dat[:600], anySuper(r), items[:len(items)-2])
		b, _ := shards.Encode(h)
		files := append(slices.Clone(l), []byte{1})
		files[r.Intn(3)], files[3+r.Intn(3)] = nil, flipped(l[5], r)
		kept, keptFiles, keptB := copied(h), copiedShards(files), bytes.Clone(b)
		shards.Valid(h)
		shards.Encode(h)
		for k := range len(b) + 1 {
			shards.Decode(b[:k])
		}
		shards.Rebuild(h, files)
		shards.Rebuild(h, files[:number])
		shards.Good(h, 2, files[2])
		if !bytes.Equal(dat, keptDat) || !slices.Equal(items, keptItems) || !same(h, kept) || !sameShards(files, keptFiles) || !bytes.Equal(b, keptB) {
			t.Fatal("an argument was changed")
		}
	}
}

func TestDecodeReadsNothingBehindItsArgument(t *testing.T) {
	b := file(some())
	for k := range b {
		checkDecode(t, "the memory goes on", b[:k], head{}, api.ErrShort)
	}
	checkDecode(t, "the memory goes on", append(bytes.Clone(b), 1, 2, 3)[:len(b)], some(), api.OK)
}

func TestResultsHaveMemoryOfTheirOwn(t *testing.T) {
	dat, items := anyBytes(rand.New(rand.NewSource(43)), 600), some().Items
	want, wantH, _ := sealed(dat, some().Super, slices.Clone(items))
	l, h, _ := shards.Make(dat, some().Super, items)
	b, _ := shards.Encode(h)
	read, _ := shards.Decode(b)
	files := slices.Clone(l)
	files[2] = nil
	all, bad, _ := shards.Rebuild(h, files)
	none, _, _ := shards.Rebuild(h, l)
	clear(dat)
	clear(items)
	clear(b)
	clear(bad)
	if !sameShards(l, want) || !same(h, wantH) || !same(read, wantH) || !sameShards(all, want) {
		t.Error("a result changes with its argument")
	}
	for i, b := range l {
		clear(b[:cap(b)])
		for k := range l {
			if k > i && !bytes.Equal(l[k], want[k]) {
				t.Errorf("shards %d and %d share memory", i, k)
			}
		}
	}
	if !sameShards(all, want) || !sameShards(none, want) {
		t.Error("rebuilt shards change with the files")
	}
	for i, b := range all {
		clear(b[:cap(b)])
		for k := range all {
			if k > i && !bytes.Equal(all[k], want[k]) {
				t.Errorf("rebuilt shards %d and %d share memory", i, k)
			}
		}
	}
	clear(h.Items)
	if !same(read, wantH) || !sameShards(none, want) {
		t.Error("results share memory")
	}
}

func TestCallsLeaveNoTrace(t *testing.T) {
	dat, l, h := sealedBytes(t, rand.New(rand.NewSource(44)), 600)
	files := slices.Clone(l)
	files[0], files[3] = nil, l[4]
	for range 3 {
		checkMake(t, "once more", dat, h.Super, h.Items)
		checkFile(t, "once more", h, file(h))
		checkRebuild(t, "once more", h, files, l, []int{0, 3}, api.OK)
		checkRebuild(t, "with too few files", h, make([][]byte, number), nil, nil, api.ErrUnavailable)
		checkGood(t, "once more", h, 3, l[3], true)
		checkGood(t, "another shard", h, 3, l[4], false)
		checkMake(t, "an error", dat[:15], h.Super, nil)
		checkDecode(t, "an error", nil, head{}, api.ErrShort)
	}
}

// Nil lists and empty ones are the same.
func TestNoItems(t *testing.T) {
	for _, items := range [][]api.Item{nil, {}, make([]api.Item, 0, 5)} {
		h := changed(smallest(), func(h *head) { h.Items = items })
		checkFile(t, "no items", h, file(smallest()))
		checkMake(t, "no items", make([]byte, 16), h.Super, items)
	}
}
