package journal_test

import (
	"bytes"
	"encoding/binary"
	"hash/crc32"
	"math"
	"math/rand"
	"slices"
	"testing"

	"needlestore/journal"
)

// The numbers are written out, so that changed constants are noticed.
const (
	size   = 12
	before = 8 // bytes before the checksum
	bits   = 8 * size
	maxKey = math.MaxUint64
)

var castagnoli = crc32.MakeTable(crc32.Castagnoli)

func sum(b []byte) uint32 { return crc32.Checksum(b, castagnoli) }

// entry is 14.1 word for word, for one key.
func entry(key uint64) []byte {
	b := binary.BigEndian.AppendUint64(nil, key)
	return binary.LittleEndian.AppendUint32(b, sum(b))
}

// entries is 14.1 word for word.
func entries(keys ...uint64) []byte {
	var b []byte
	for _, key := range keys {
		b = append(b, entry(key)...)
	}
	return b
}

// isEntry reports whether there is an entry at a place of b, as 14.2 says.
func isEntry(b []byte, at int) bool {
	return len(b)-at >= size && binary.LittleEndian.Uint32(b[at+before:]) == sum(b[at:at+before])
}

// decode is 14.2 word for word.
func decode(b []byte) ([]uint64, int64) {
	var keys []uint64
	at := 0
	for ; isEntry(b, at); at += size {
		keys = append(keys, binary.BigEndian.Uint64(b[at:]))
	}
	return keys, int64(at)
}

// someKeys returns the first and the last keys, each single bit, all bits below
// one and all bits but one, each single byte, and random keys.
func someKeys(r *rand.Rand) []uint64 {
	l := []uint64{0, 1, 2, 1<<32 - 1, 1 << 32, 1<<32 + 1, 1<<63 - 1, 1 << 63, 1<<63 + 1, maxKey - 1, maxKey, 0x0102030405060708, 0x8877665544332211}
	for bit := range 64 {
		l = append(l, 1<<bit, 1<<bit-1, maxKey-1<<bit)
	}
	for place := range 8 {
		for x := range uint64(256) {
			l = append(l, x<<(8*place))
		}
	}
	return append(l, randomKeys(r, 100)...)
}

func randomKeys(r *rand.Rand, n int) []uint64 {
	l := make([]uint64, n)
	for i := range l {
		l[i] = r.Uint64()
	}
	return l
}

func randomBytes(r *rand.Rand, n int) []byte {
	b := make([]byte, n)
	r.Read(b)
	return b
}

// changed returns b with another byte at i.
func changed(b []byte, i int, x byte) []byte {
	b = bytes.Clone(b)
	b[i] = x
	return b
}

// noEntries returns 12 bytes each that are no entry: everywhere the same byte,
// or an entry with a mistake.
func noEntries(t *testing.T) [][]byte {
	t.Helper()
	const key = 0x0102030405060708
	e := entry(key)
	var l [][]byte
	for x := range 256 {
		l = append(l, bytes.Repeat([]byte{byte(x)}, size))
	}
	for i := range e {
		l = append(l, changed(e, i, e[i]^1), changed(e, i, e[i]^128), changed(e, i, ^e[i]))
	}
	turned := bytes.Clone(e)
	slices.Reverse(turned)
	l = append(l,
		turned,
		binary.BigEndian.AppendUint32(bytes.Clone(e[:before]), sum(e[:before])),
		binary.LittleEndian.AppendUint32(bytes.Clone(e[:before]), ^sum(e[:before])),
		binary.LittleEndian.AppendUint32(bytes.Clone(e[:before]), sum(nil)),
		binary.LittleEndian.AppendUint32(bytes.Clone(e[:before]), sum(e[:before-1])),
		binary.LittleEndian.AppendUint32(binary.LittleEndian.AppendUint64(nil, key), sum(e[:before])),
		slices.Concat(e[before:], e[:before]),
		slices.Concat(e[1:], entry(key)[:1]),
		slices.Concat([]byte{0}, e[:size-1]),
		slices.Concat(entry(1)[:before], entry(2)[before:]))
	for _, b := range l {
		if isEntry(b, 0) {
			t.Fatalf("%x is an entry", b)
		}
	}
	return l
}

func checkEncode(t *testing.T, keys []uint64, want []byte) {
	t.Helper()
	if b := journal.Encode(keys); !bytes.Equal(b, want) {
		t.Errorf("Encode(%x) = %x, want %x", keys, b, want)
	}
}

func checkDecode(t *testing.T, what string, b []byte, want []uint64, end int) {
	t.Helper()
	if keys, n := journal.Decode(b); !slices.Equal(keys, want) || n != int64(end) {
		t.Errorf("%s: Decode(%x) = %x, %d, want %x, %d", what, b, keys, n, want, end)
	}
}

// checkLikeChapter compares Decode with 14.2, and what it reads with what Encode
// writes. It returns the number of keys.
func checkLikeChapter(t *testing.T, what string, b []byte) int {
	t.Helper()
	keys, end := decode(b)
	checkDecode(t, what, b, keys, int(end))
	checkEncode(t, keys, b[:end])
	return len(keys)
}

// The chapter's examples.

func TestExamples(t *testing.T) {
	if b := journal.Encode(nil); len(b) != 0 {
		t.Errorf("Encode of no keys: %x", b)
	}
	checkDecode(t, "11 bytes", entry(7)[:11], nil, 0)
	checkDecode(t, "11 bytes", make([]byte, 11), nil, 0)
}

// Promise 14.1.

// Each entry is written out: the key's most significant byte first, the
// checksum's least significant byte first.
var written = []struct {
	key  uint64
	want []byte
}{
	{0, []byte{0, 0, 0, 0, 0, 0, 0, 0, 0x8a, 0xb2, 0x28, 0x8c}},
	{1, []byte{0, 0, 0, 0, 0, 0, 0, 1, 0x89, 0x31, 0x43, 0x7e}},
	{2, []byte{0, 0, 0, 0, 0, 0, 0, 2, 0x7d, 0xc2, 0x13, 0x6d}},
	{255, []byte{0, 0, 0, 0, 0, 0, 0, 255, 0xdb, 0xe1, 0x55, 0x21}},
	{256, []byte{0, 0, 0, 0, 0, 0, 1, 0, 0xfd, 0x2a, 0x8a, 0x9f}},
	{1 << 32, []byte{0, 0, 0, 1, 0, 0, 0, 0, 0x26, 0xdd, 0x39, 0xb4}},
	{1 << 63, []byte{128, 0, 0, 0, 0, 0, 0, 0, 0xee, 0x24, 0x29, 0xb8}},
	{18446744073709551615, []byte{255, 255, 255, 255, 255, 255, 255, 255, 0xc7, 0x4b, 0x67, 0x48}},
	{0x0102030405060708, []byte{1, 2, 3, 4, 5, 6, 7, 8, 0x81, 0x1f, 0x89, 0x46}},
	{0x8877665544332211, []byte{0x88, 0x77, 0x66, 0x55, 0x44, 0x33, 0x22, 0x11, 0x16, 0x51, 0x59, 0xaf}},
	{0xf0e1d2c3b4a59687, []byte{0xf0, 0xe1, 0xd2, 0xc3, 0xb4, 0xa5, 0x96, 0x87, 0x5c, 0xb4, 0x58, 0x54}},
}

func TestEncodeOfNoKeys(t *testing.T) {
	checkEncode(t, nil, nil)
	checkEncode(t, []uint64{}, nil)
	checkEncode(t, []uint64{5}[:0], nil)
}

func TestEncodeByteByByte(t *testing.T) {
	var keys []uint64
	var all []byte
	for _, c := range written {
		checkEncode(t, []uint64{c.key}, c.want)
		keys, all = append(keys, c.key), append(all, c.want...)
		checkEncode(t, keys, all)
	}
}

func TestEntryIsTheLengthOfAnEntry(t *testing.T) {
	const n int = journal.Entry
	if b := journal.Encode([]uint64{7}); len(b) != size || n != size {
		t.Errorf("%d bytes, Entry %d", len(b), n)
	}
}

func TestEncodeOfOneKey(t *testing.T) {
	for _, key := range someKeys(rand.New(rand.NewSource(1))) {
		checkEncode(t, []uint64{key}, entry(key))
	}
}

// Two keys that differ in every byte, and in one byte alone.
func TestEncodeOfTwoKeys(t *testing.T) {
	r := rand.New(rand.NewSource(2))
	for _, key := range append(randomKeys(r, 100), 0, maxKey, 0x0102030405060708) {
		checkEncode(t, []uint64{key, ^key}, slices.Concat(entry(key), entry(^key)))
		for place := range 8 {
			other := key ^ uint64(1+r.Intn(255))<<(8*place)
			checkEncode(t, []uint64{key, other}, slices.Concat(entry(key), entry(other)))
		}
	}
}

func TestEncodeOfManyKeys(t *testing.T) {
	r := rand.New(rand.NewSource(3))
	for n := range 200 {
		keys := randomKeys(r, n)
		checkEncode(t, keys, entries(keys...))
	}
	l := someKeys(r)
	checkEncode(t, l, entries(l...))
}

// The keys stay in their order, and equal ones stay all.
func TestEncodeKeepsOrderAndEqualKeys(t *testing.T) {
	for _, keys := range [][]uint64{
		{7, 7}, {7, 7, 7, 7}, {1, 2, 3}, {3, 2, 1}, {2, 1, 2}, {0, 0, 5, 0}, {maxKey, 0, maxKey, 1}, {1 << 63, 1, 1 << 32},
	} {
		checkEncode(t, keys, entries(keys...))
		checkDecode(t, "any order", entries(keys...), keys, size*len(keys))
	}
}

// Promise 14.2.

func TestDecodeOfNoBytes(t *testing.T) {
	checkDecode(t, "nil", nil, nil, 0)
	checkDecode(t, "no bytes", []byte{}, nil, 0)
	checkDecode(t, "no bytes of an entry", entry(7)[:0], nil, 0)
}

// A part of an entry is none, whatever it begins with.
func TestDecodeOfTooFewBytes(t *testing.T) {
	for _, key := range someKeys(rand.New(rand.NewSource(4))) {
		for n := range size {
			checkDecode(t, "a part of an entry", entry(key)[:n], nil, 0)
			checkDecode(t, "the end of an entry", entry(key)[size-n:], nil, 0)
		}
	}
	for n := range size {
		checkDecode(t, "zeros", make([]byte, n), nil, 0)
	}
}

func TestDecodeByteByByte(t *testing.T) {
	var keys []uint64
	var all []byte
	for _, c := range written {
		checkDecode(t, "written out", c.want, []uint64{c.key}, size)
		keys, all = append(keys, c.key), append(all, c.want...)
		checkDecode(t, "written out", all, keys, size*len(keys))
	}
}

func TestDecodeOfOneEntry(t *testing.T) {
	for _, key := range someKeys(rand.New(rand.NewSource(5))) {
		checkDecode(t, "one entry", entry(key), []uint64{key}, size)
	}
}

func TestDecodeOfSeveralEntries(t *testing.T) {
	r := rand.New(rand.NewSource(6))
	for n := range 200 {
		keys := randomKeys(r, n)
		checkDecode(t, "several entries", entries(keys...), keys, size*n)
	}
	l := someKeys(r)
	checkDecode(t, "some keys", entries(l...), l, size*len(l))
}

func TestDecodeOfManyEntries(t *testing.T) {
	keys := randomKeys(rand.New(rand.NewSource(7)), 1<<20/size)
	b := entries(keys...)
	if l, end := journal.Decode(b); !slices.Equal(l, keys) || end != int64(len(b)) {
		t.Errorf("%d keys, %d bytes", len(l), end)
	}
	if !bytes.Equal(journal.Encode(keys), b) {
		t.Error("Encode of many keys")
	}
}

func TestDecodeOfEntriesAndAFewBytes(t *testing.T) {
	r := rand.New(rand.NewSource(8))
	for n := range 20 {
		keys := randomKeys(r, n)
		b := entries(keys...)
		for few := 1; few < size; few++ {
			for _, more := range [][]byte{make([]byte, few), bytes.Repeat([]byte{255}, few), randomBytes(r, few), entry(r.Uint64())[:few], entry(0)[:few]} {
				checkDecode(t, "a few bytes behind", slices.Concat(b, more), keys, size*n)
			}
		}
	}
}

func TestDecodeOfCutJournals(t *testing.T) {
	r := rand.New(rand.NewSource(9))
	for n := range 30 {
		keys := randomKeys(r, n)
		b := entries(keys...)
		for k := range len(b) + 1 {
			checkDecode(t, "a cut journal", b[:k], keys[:k/size], k/size*size)
		}
	}
}

// What is no entry stands at each place of a journal, between entries or instead
// of one. The entries behind it are not read.
func TestDecodeUpToWhatIsNoEntry(t *testing.T) {
	r := rand.New(rand.NewSource(10))
	for _, bad := range noEntries(t) {
		keys := randomKeys(r, 6)
		for i := range len(keys) + 1 {
			begin, rest := entries(keys[:i]...), entries(keys[i:]...)
			checkDecode(t, "between entries", slices.Concat(begin, bad, rest), keys[:i], size*i)
			checkDecode(t, "between entries", slices.Concat(begin, bad, bad, rest), keys[:i], size*i)
			checkDecode(t, "instead of entries", slices.Concat(begin, bad, rest[min(size, len(rest)):]), keys[:i], size*i)
			for more := range size {
				checkDecode(t, "at the end", slices.Concat(begin, bad, rest[:min(more, len(rest))]), keys[:i], size*i)
			}
		}
	}
}

// A few bytes shift the entries behind them: these are at no place any more at
// which an entry is looked for.
func TestDecodeReadsNoShiftedEntries(t *testing.T) {
	r := rand.New(rand.NewSource(11))
	for range 20 {
		keys := randomKeys(r, 8)
		for i := range len(keys) {
			for few := 1; few < size; few++ {
				for _, more := range [][]byte{make([]byte, few), randomBytes(r, few), entry(keys[i])[:few]} {
					b := slices.Concat(entries(keys[:i]...), more, entries(keys[i:]...))
					if isEntry(b, size*i) { // by chance: an entry may end like it begins
						continue
					}
					checkDecode(t, "shifted entries", b, keys[:i], size*i)
				}
			}
		}
	}
}

func TestDecodeOfOtherChecksums(t *testing.T) {
	r := rand.New(rand.NewSource(12))
	keys := append(randomKeys(r, 5), 0, maxKey)
	b := entries(keys...)
	for i := range keys {
		for at := size*i + before; at < size*(i+1); at++ {
			for v := range 255 {
				checkDecode(t, "another checksum", changed(b, at, b[at]+1+byte(v)), keys[:i], size*i)
			}
		}
	}
}

func TestDecodeOfOtherKeys(t *testing.T) {
	r := rand.New(rand.NewSource(13))
	keys := append(randomKeys(r, 5), 0, maxKey)
	b := entries(keys...)
	for i := range keys {
		for at := size * i; at < size*i+before; at++ {
			for v := range 255 {
				other := changed(b, at, b[at]+1+byte(v))
				checkDecode(t, "another key", other, keys[:i], size*i)
				key := binary.BigEndian.Uint64(other[size*i:])
				again := slices.Concat(b[:size*i], entry(key), b[size*(i+1):])
				checkDecode(t, "another key, the checksum fits", again, slices.Concat(keys[:i], []uint64{key}, keys[i+1:]), len(b))
			}
		}
	}
}

// Each set of wrong entries among six, cut at each place: the first one ends the journal.
func TestDecodeOfSeveralMistakes(t *testing.T) {
	r := rand.New(rand.NewSource(14))
	const n = 6
	for wrong := range 1 << n {
		keys := randomKeys(r, n)
		b, good := entries(keys...), n
		for i := n - 1; i >= 0; i-- {
			if wrong>>i&1 == 1 {
				b[size*i+r.Intn(size)] ^= byte(1 + r.Intn(255))
				good = i
			}
		}
		for k := range len(b) + 1 {
			read := min(good, k/size)
			checkDecode(t, "several mistakes", b[:k], keys[:read], size*read)
			checkLikeChapter(t, "several mistakes", b[:k])
		}
	}
}

// Many of these bytes are entries, and many others have only one mistake.
func TestDecodeOfRandomBytes(t *testing.T) {
	r := rand.New(rand.NewSource(15))
	seen := map[int]int{}
	for range 20000 {
		b := entries(randomKeys(r, r.Intn(5))...)
		if len(b) > 0 && r.Intn(2) == 0 {
			b[r.Intn(len(b))] ^= 1 << r.Intn(8)
		}
		b = append(b, randomBytes(r, r.Intn(2*size))...)
		seen[checkLikeChapter(t, "random bytes", b[:r.Intn(len(b)+1)])]++
	}
	for n := range 4 {
		if seen[n] < 500 {
			t.Errorf("%d keys only %d times", n, seen[n])
		}
	}
}

// Promise 14.3.

func TestDecodeReadsWhatEncodeWrites(t *testing.T) {
	r := rand.New(rand.NewSource(16))
	for n := range 100 {
		keys := randomKeys(r, n)
		b := journal.Encode(keys)
		checkDecode(t, "what Encode writes", b, keys, len(b))
		for k := range len(b) {
			checkDecode(t, "what Encode writes, cut", b[:k], keys[:k/size], k/size*size)
		}
	}
}

// Journals that are written one after the other are the journal of all their
// keys; the bytes of the last one may have been written in part only.
func TestJournalsOneAfterTheOther(t *testing.T) {
	r := rand.New(rand.NewSource(17))
	for range 200 {
		var all []uint64
		var b []byte
		for range r.Intn(8) {
			keys := randomKeys(r, r.Intn(4))
			next := journal.Encode(keys)
			for k := range next {
				read := slices.Concat(all, keys[:k/size])
				checkDecode(t, "torn", slices.Concat(b, next[:k]), read, size*len(read))
			}
			all, b = append(all, keys...), append(b, next...)
			checkDecode(t, "one after the other", b, all, len(b))
			checkEncode(t, all, b)
		}
	}
}

// After a cut to what was read, the journal goes on.
func TestAJournalGoesOnBehindItsEntries(t *testing.T) {
	r := rand.New(rand.NewSource(18))
	for range 200 {
		keys, more := randomKeys(r, 1+r.Intn(5)), randomKeys(r, r.Intn(5))
		b := journal.Encode(keys)
		k := r.Intn(len(b) + 1)
		_, end := journal.Decode(b[:k])
		b = slices.Concat(b[:end], journal.Encode(more))
		checkDecode(t, "cut and written again", b, slices.Concat(keys[:k/size], more), len(b))
	}
}

// checkBurst changes the first and the last bit of a range, and those between
// them that inner names. Bits are counted as in 1.4, in each byte from the least
// significant one: counted from the other end, 32 consecutive bits may span 40,
// and 14.3 would not hold for all of them.
func checkBurst(t *testing.T, b []byte, keys []uint64, from, length int, inner uint32) {
	t.Helper()
	other := bytes.Clone(b)
	for i := range length {
		if bit := from + i; i == 0 || i == length-1 || inner>>i&1 == 1 {
			other[bit/8] ^= 1 << (bit % 8)
		}
	}
	good := from / bits
	l, end := journal.Decode(other)
	if !slices.Equal(l, keys[:good]) || end != int64(size*good) {
		t.Errorf("%x: %d bits from %d on, pattern %#x: %x, %d", b, length, from, inner, l, end)
	}
}

// Each run of up to 32 bits is changed wherever it fits: within the key, within
// the checksum, over the border between them, and over that between two entries,
// where the first of the two ends the journal.
func TestEveryShortBurstEndsTheJournal(t *testing.T) {
	r := rand.New(rand.NewSource(19))
	for _, keys := range [][]uint64{{0}, {maxKey}, {0x0102030405060708}, {0, 1, 1 << 32, 1 << 63, maxKey}, randomKeys(r, 8)} {
		b := journal.Encode(keys)
		for from := range 8 * len(b) {
			for length := 1; length <= 32 && from+length <= 8*len(b); length++ {
				checkBurst(t, b, keys, from, length, math.MaxUint32)
				checkBurst(t, b, keys, from, length, 0)
				checkBurst(t, b, keys, from, length, r.Uint32())
			}
		}
	}
}

func TestEveryPatternOfAVeryShortBurstEndsTheJournal(t *testing.T) {
	keys := randomKeys(rand.New(rand.NewSource(20)), 2)
	b := journal.Encode(keys)
	for from := range 8 * len(b) {
		for length := 1; length <= 10 && from+length <= 8*len(b); length++ {
			for inner := uint32(0); inner < 1<<length; inner += 2 {
				checkBurst(t, b, keys, from, length, inner)
			}
		}
	}
}

// A burst in an entry leaves it and all entries behind it unread, also if one of
// them is changed too.
func TestBurstsInSeveralEntries(t *testing.T) {
	r := rand.New(rand.NewSource(21))
	for range 5000 {
		keys := randomKeys(r, 1+r.Intn(6))
		b, good := journal.Encode(keys), len(keys)
		for range r.Intn(4) {
			i := r.Intn(len(keys))
			if i >= good {
				continue
			}
			flipBurst(b[size*i:size*(i+1)], r)
			good = i
		}
		checkDecode(t, "bursts", b, keys[:good], size*good)
	}
}

// flipBurst changes up to 32 consecutive bits of b, at least one.
func flipBurst(b []byte, r *rand.Rand) {
	length := 1 + r.Intn(32)
	from := r.Intn(8*len(b) - length + 1)
	for i := range length {
		if bit := from + i; i == 0 || r.Intn(2) == 0 {
			b[bit/8] ^= 1 << (bit % 8)
		}
	}
}

// The effects of changes add up, so no change of 32 bits goes unnoticed in any
// entry if the effects of the single bits are linearly independent: this covers
// all patterns.
func TestBitsOfAWindowAreIndependent(t *testing.T) {
	b := journal.Encode([]uint64{0x0102030405060708})
	if len(b) != size {
		t.Fatalf("%d bytes", len(b))
	}
	effects := make([]uint32, bits)
	for i := range effects {
		other := changed(b, i/8, b[i/8]^1<<(i%8))
		effects[i] = sum(other[:before]) ^ binary.LittleEndian.Uint32(other[before:])
	}
	for from := range len(effects) - 31 {
		if !independent(effects[from : from+32]) {
			t.Errorf("from bit %d on: not independent", from)
		}
	}
}

// independent reports whether no choice of numbers of l adds up to 0. What is
// left of each number has none of the leading bits of those before it.
func independent(l []uint32) bool {
	var rests []uint32
	for _, v := range l {
		for _, rest := range rests {
			v = min(v, v^rest)
		}
		if v == 0 {
			return false
		}
		rests = append(rests, v)
	}
	return true
}

// Rules R3 and R4, and rule 7 of LANGUAGE.md.

func TestEncodeLeavesItsArgument(t *testing.T) {
	memory := []uint64{5, maxKey, 0, 5, 1 << 32, 9, 9}
	kept := slices.Clone(memory)
	for k := range len(memory) + 1 {
		journal.Encode(memory[:k])
	}
	if !slices.Equal(memory, kept) {
		t.Errorf("%x became %x", kept, memory)
	}
	b := journal.Encode(memory)
	clear(memory)
	if !bytes.Equal(b, entries(kept...)) {
		t.Errorf("the bytes change with the keys: %x", b)
	}
}

// The memory ends behind the argument or goes on.
func TestDecodeLeavesItsArgument(t *testing.T) {
	keys := []uint64{5, maxKey, 0, 5, 1 << 32}
	b := entries(keys...)
	l := [][]byte{b, make([]byte, 30), bytes.Repeat([]byte{255}, 30)}
	for i := range b {
		l = append(l, changed(b, i, ^b[i]))
	}
	for _, memory := range l {
		memory = append(bytes.Clone(memory), 1, 2, 3)
		kept := bytes.Clone(memory)
		for k := range len(memory) + 1 {
			journal.Decode(memory[:k])
		}
		if !bytes.Equal(memory, kept) {
			t.Errorf("%x became %x", kept, memory)
		}
	}
	read, _ := journal.Decode(b)
	clear(b)
	if !slices.Equal(read, keys) {
		t.Errorf("the keys change with the bytes: %x", read)
	}
}

// The bytes behind the argument, in the same memory, are not read.
func TestDecodeReadsNothingBehindItsArgument(t *testing.T) {
	keys := []uint64{5, maxKey, 0}
	b := entries(keys...)
	for k := range len(b) {
		checkDecode(t, "the memory goes on", b[:k:len(b)], keys[:k/size], k/size*size)
	}
}

func TestResultsHaveMemoryOfTheirOwn(t *testing.T) {
	keys := []uint64{5, maxKey, 0, 5}
	b := entries(keys...)
	first, second := journal.Encode(keys), journal.Encode(keys)
	clear(first[:cap(first)])
	if !bytes.Equal(second, b) || !slices.Equal(keys, []uint64{5, maxKey, 0, 5}) {
		t.Errorf("results share memory: %x, %x", second, keys)
	}
	checkEncode(t, keys, b)
	read, _ := journal.Decode(b)
	again, _ := journal.Decode(b)
	clear(read[:cap(read)])
	if !slices.Equal(again, keys) || !bytes.Equal(b, entries(keys...)) {
		t.Errorf("results share memory: %x, %x", again, b)
	}
	checkDecode(t, "after a changed result", b, keys, len(b))
}

func TestCallsLeaveNoTrace(t *testing.T) {
	keys := []uint64{5, maxKey, 0, 5}
	b := entries(keys...)
	for range 2 {
		checkEncode(t, keys, b)
		checkDecode(t, "once more", b, keys, len(b))
		checkEncode(t, nil, nil)
		checkDecode(t, "a cut journal", b[:23], keys[:1], size)
		checkDecode(t, "no entries", make([]byte, 50), nil, 0)
		checkEncode(t, keys[2:], b[2*size:])
	}
}
