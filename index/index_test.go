package index_test

import (
	"bytes"
	"encoding/binary"
	"hash/crc32"
	"maps"
	"math"
	"math/rand"
	"slices"
	"testing"

	"needlestore/api"
	"needlestore/index"
)

// The numbers are written out, so that changed constants are noticed.
const (
	entry   = 24
	before  = 20 // bytes before the checksum
	minOff  = 16
	maxOff  = 1048576
	maxSize = 4096
	maxKey  = math.MaxUint64
)

// good is 8.1 word for word, for one item.
func good(x api.Item) bool {
	return x.Off >= minOff && x.Off <= maxOff && x.Off%8 == 0 && x.Size >= 0 && x.Size <= maxSize
}

// valid is 8.1 word for word.
func valid(l []api.Item) bool {
	for i, x := range l {
		if !good(x) || i > 0 && l[i-1].Key >= x.Key {
			return false
		}
	}
	return true
}

// opened is an entry without its checksum, with any numbers.
func opened(key uint64, cookie, off, size uint32) []byte {
	b := binary.BigEndian.AppendUint64(nil, key)
	b = binary.BigEndian.AppendUint32(b, cookie)
	b = binary.BigEndian.AppendUint32(b, off)
	return binary.BigEndian.AppendUint32(b, size)
}

// closed returns b with its checksum.
func closed(b []byte) []byte {
	return binary.LittleEndian.AppendUint32(bytes.Clone(b), sum(b))
}

func sum(b []byte) uint32 { return crc32.Checksum(b, crc32.MakeTable(crc32.Castagnoli)) }

// entries is the bytes of 8.2 word for word. It writes lists that are not valid too.
func entries(l []api.Item) []byte {
	var b []byte
	for _, x := range l {
		b = append(b, closed(opened(x.Key, x.Cookie, uint32(x.Off), uint32(x.Size)))...)
	}
	return b
}

// decode is 8.2 word for word.
func decode(b []byte) ([]api.Item, api.Errno) {
	var l []api.Item
	for at := 0; at < len(b); at += entry {
		if len(b)-at < entry {
			return nil, api.ErrShort
		}
		e := b[at : at+entry]
		if binary.LittleEndian.Uint32(e[before:]) != sum(e[:before]) {
			return nil, api.ErrCheck
		}
		l = append(l, api.Item{
			Key:    binary.BigEndian.Uint64(e),
			Cookie: binary.BigEndian.Uint32(e[8:]),
			Off:    int64(binary.BigEndian.Uint32(e[12:])),
			Size:   int(binary.BigEndian.Uint32(e[16:])),
		})
	}
	if !valid(l) {
		return nil, api.ErrForm
	}
	return l, api.OK
}

// table is the map that a list stands for: of several items with one key, the last one.
func table(l []api.Item) map[uint64]api.Item {
	m := map[uint64]api.Item{}
	for _, x := range l {
		m[x.Key] = x
	}
	return m
}

// list is the list that stands for a map.
func list(m map[uint64]api.Item) []api.Item {
	var l []api.Item
	for _, key := range slices.Sorted(maps.Keys(m)) {
		l = append(l, m[key])
	}
	return l
}

// merged is the Merge of 8.3 word for word.
func merged(old, fresh []api.Item, gone []uint64) []api.Item {
	m := table(old)
	for _, key := range gone {
		delete(m, key)
	}
	maps.Copy(m, table(fresh))
	return list(m)
}

// item returns a valid item; items with other numbers n are different.
func item(key uint64, n int) api.Item {
	return api.Item{Key: key, Cookie: uint32(n) + 1000, Off: minOff + 8*int64(n), Size: n % (maxSize + 1)}
}

// keyed returns the valid items with these keys, all different.
func keyed(keys ...uint64) []api.Item {
	var l []api.Item
	for i, key := range keys {
		l = append(l, item(key, i))
	}
	return l
}

// anyItem returns one of all valid items with this key.
func anyItem(r *rand.Rand, key uint64) api.Item {
	off := int64(minOff + 8*r.Intn((maxOff-minOff)/8+1))
	return api.Item{Key: key, Cookie: r.Uint32(), Off: off, Size: r.Intn(maxSize + 1)}
}

// badItem returns an item with any numbers: it is most likely not valid.
func badItem(r *rand.Rand, key uint64) api.Item {
	return api.Item{Key: key, Cookie: r.Uint32(), Off: int64(r.Uint64()), Size: int(r.Uint64())}
}

// anyList returns a valid list of n items.
func anyList(r *rand.Rand, n int) []api.Item {
	m := map[uint64]api.Item{}
	for len(m) < n {
		key := r.Uint64() >> r.Intn(64)
		if n > 8 {
			key = r.Uint64()
		}
		m[key] = anyItem(r, key)
	}
	return list(m)
}

// lists returns valid lists: empty ones, with numbers at their bounds, with keys
// that follow one another, with the least and the greatest key, and random ones.
func lists(r *rand.Rand) [][]api.Item {
	l := [][]api.Item{
		nil, {}, {{Off: minOff}}, {{Key: maxKey, Cookie: math.MaxUint32, Off: maxOff, Size: maxSize}},
		{{Off: maxOff}, {Key: 1, Off: minOff, Size: maxSize}, {Key: 2, Off: maxOff}},
		keyed(0, maxKey), keyed(1<<63-1, 1<<63), keyed(1<<63-1, 1<<63, 1<<63+1), keyed(maxKey-1, maxKey), keyed(1<<32-1, 1<<32),
		keyed(255, 256, 65535, 65536, 1<<24-1, 1<<24, 1<<40, 1<<48, 1<<56),
	}
	for bit := range 64 {
		l = append(l, []api.Item{anyItem(r, 1<<bit), anyItem(r, 1<<bit+1)}, []api.Item{anyItem(r, 1<<bit-1), anyItem(r, 1<<bit)})
	}
	for n := range 40 {
		l = append(l, anyList(r, n))
	}
	return append(l, anyList(r, 333), anyList(r, 1000))
}

// badItems returns items of which exactly one number is not valid.
func badItems() []api.Item {
	var l []api.Item
	offs := []int64{
		-1, -7, -8, -9, -16, -24, 0, 1, 7, 8, 9, 15, 17, 18, 19, 20, 21, 22, 23, 25, maxOff - 9, maxOff - 7, maxOff - 4, maxOff - 1,
		maxOff + 1, maxOff + 4, maxOff + 7, maxOff + 8, maxOff + 16, 1 << 21, math.MaxInt32 - 7, math.MinInt32, 1 << 32, 1<<32 + 16,
		1<<32 + maxOff, -1 << 32, -1<<32 + 16, 1 << 62, 1<<62 + 16, math.MaxInt64 - 7, math.MaxInt64, math.MinInt64, math.MinInt64 + 16,
	}
	for _, off := range offs {
		l = append(l, api.Item{Off: off}, api.Item{Cookie: 9, Off: off, Size: maxSize})
	}
	sizes := []int{
		-1, -2, -8, -maxSize, maxSize + 1, maxSize + 2, 2 * maxSize, 1 << 16, math.MaxInt32, math.MinInt32, 1 << 32, 1<<32 + 1,
		1<<32 + maxSize, -1 << 32, -1<<32 + 1, math.MaxInt64, math.MinInt64, math.MinInt64 + 1,
	}
	for _, size := range sizes {
		l = append(l, api.Item{Off: minOff, Size: size}, api.Item{Cookie: 9, Off: maxOff, Size: size})
	}
	return l
}

// sequences calls f with every sequence of at most n of these keys, as items
// with numbers from first on. The items are the same memory each time.
func sequences(keys []uint64, n, first int, f func([]api.Item)) {
	l := make([]api.Item, 0, n)
	var extend func()
	extend = func() {
		f(l)
		if len(l) == n {
			return
		}
		for _, key := range keys {
			l = append(l, item(key, first+len(l)))
			extend()
			l = l[:len(l)-1]
		}
	}
	extend()
}

// with returns l with another item at i.
func with(l []api.Item, i int, x api.Item) []api.Item {
	l = slices.Clone(l)
	l[i] = x
	return l
}

// changed returns b with another byte at i.
func changed(b []byte, i int, x byte) []byte {
	b = bytes.Clone(b)
	b[i] = x
	return b
}

// brief returns the beginning of a list, for messages.
func brief[T any](l []T) []T { return l[:min(len(l), 48)] }

func encode(t *testing.T, l []api.Item) []byte {
	t.Helper()
	b, e := index.Encode(l)
	if e != api.OK {
		t.Fatalf("Encode(%v): error %d", brief(l), e)
	}
	return b
}

func checkValid(t *testing.T, l []api.Item, want bool) {
	t.Helper()
	if v := index.Valid(l); v != want {
		t.Errorf("Valid(%v) = %v, want %v", brief(l), v, want)
	}
}

func checkEncode(t *testing.T, l []api.Item, want []byte) {
	t.Helper()
	if b, e := index.Encode(l); e != api.OK || !bytes.Equal(b, want) {
		t.Errorf("Encode(%v) = %v, error %d, want %v", brief(l), brief(b), e, brief(want))
	}
}

// checkInvalid checks that a list is not valid, and that it is not written.
func checkInvalid(t *testing.T, what string, l []api.Item) {
	t.Helper()
	if index.Valid(l) {
		t.Errorf("%s: Valid(%v)", what, brief(l))
	}
	if b, e := index.Encode(l); e != api.ErrArg || len(b) != 0 {
		t.Errorf("%s: Encode(%v) = %v, error %d, want ErrArg", what, brief(l), brief(b), e)
	}
}

func checkDecode(t *testing.T, what string, b []byte, want []api.Item, err api.Errno) {
	t.Helper()
	if l, e := index.Decode(b); e != err || !slices.Equal(l, want) {
		t.Errorf("%s: Decode(%v) = %v, error %d, want %v, error %d", what, brief(b), brief(l), e, brief(want), err)
	}
}

func checkNoDecode(t *testing.T, what string, b []byte, err api.Errno) {
	t.Helper()
	checkDecode(t, what, b, nil, err)
}

// checkLikeChapter compares Decode with 8.2, and what it accepts with what Encode writes.
func checkLikeChapter(t *testing.T, what string, b []byte) api.Errno {
	t.Helper()
	l, e := decode(b)
	checkDecode(t, what, b, l, e)
	if e == api.OK {
		checkEncode(t, l, b)
	}
	return e
}

func checkFind(t *testing.T, l []api.Item, key uint64, want api.Item, found bool) {
	t.Helper()
	if x, ok := index.Find(l, key); ok != found || x != want {
		t.Errorf("Find(%v, %d) = %v, %v, want %v, %v", brief(l), key, x, ok, want, found)
	}
}

func checkPut(t *testing.T, l []api.Item, x api.Item, want []api.Item) {
	t.Helper()
	if p := index.Put(l, x); !slices.Equal(p, want) {
		t.Errorf("Put(%v, %v) = %v, want %v", brief(l), x, brief(p), brief(want))
	}
}

func checkDrop(t *testing.T, l []api.Item, key uint64, want []api.Item) {
	t.Helper()
	if d := index.Drop(l, key); !slices.Equal(d, want) {
		t.Errorf("Drop(%v, %d) = %v, want %v", brief(l), key, brief(d), brief(want))
	}
}

func checkMerge(t *testing.T, old, fresh []api.Item, gone []uint64, want []api.Item) {
	t.Helper()
	if l := index.Merge(old, fresh, gone); !slices.Equal(l, want) {
		t.Errorf("Merge(%v, %v, %v) = %v, want %v", brief(old), brief(fresh), brief(gone), brief(l), brief(want))
	}
}

// checkLikeMap compares Find, Put and Drop with those of the map that l stands for.
func checkLikeMap(t *testing.T, l []api.Item, x api.Item) {
	t.Helper()
	m := table(l)
	want, found := m[x.Key]
	checkFind(t, l, x.Key, want, found)
	delete(m, x.Key)
	checkDrop(t, l, x.Key, list(m))
	m[x.Key] = x
	checkPut(t, l, x, list(m))
}

// The chapter's examples.

func TestExamples(t *testing.T) {
	checkEncode(t, nil, nil)
	checkFind(t, nil, 0, api.Item{}, false)
	checkFind(t, nil, 1, api.Item{}, false)
	old, fresh := keyed(1), []api.Item{item(2, 9)}
	checkMerge(t, old, fresh, []uint64{1}, fresh)
}

// Promise 8.1.

func TestValidLists(t *testing.T) {
	for _, l := range lists(rand.New(rand.NewSource(1))) {
		checkValid(t, l, true)
	}
}

func TestValidAtEachBound(t *testing.T) {
	for off, want := range map[int64]bool{
		-16: false, -8: false, 0: false, 8: false, 15: false, 16: true, 17: false, 20: false, 24: true, 32: true,
		1048568: true, 1048575: false, 1048576: true, 1048577: false, 1048580: false, 1048584: false,
	} {
		checkValid(t, []api.Item{{Off: off}}, want)
		checkValid(t, []api.Item{{Key: maxKey, Cookie: math.MaxUint32, Off: off, Size: 4096}}, want)
	}
	for size, want := range map[int]bool{-2: false, -1: false, 0: true, 1: true, 2: true, 4095: true, 4096: true, 4097: false, 4098: false} {
		checkValid(t, []api.Item{{Off: 16, Size: size}}, want)
		checkValid(t, []api.Item{{Key: maxKey, Cookie: math.MaxUint32, Off: 1048576, Size: size}}, want)
	}
}

// Each Off that is not a multiple of 8 is among them.
func TestValidOfEachOff(t *testing.T) {
	for off := int64(-200); off <= maxOff+200; off++ {
		checkValid(t, []api.Item{{Key: 3, Off: off, Size: 5}}, good(api.Item{Off: off}))
	}
}

func TestValidOfEachSize(t *testing.T) {
	for size := -5000; size <= 70000; size++ {
		checkValid(t, []api.Item{{Key: 3, Off: 800, Size: size}}, size >= 0 && size <= maxSize)
	}
}

// The cookie does not matter, and any key may be the first one.
func TestValidOfEachKeyAndCookie(t *testing.T) {
	for bit := range 64 {
		for _, key := range []uint64{1 << bit, 1<<bit - 1, maxKey << bit} {
			checkValid(t, []api.Item{{Key: key, Cookie: uint32(key), Off: minOff}}, true)
		}
	}
}

func TestInvalidItemAtEachPlace(t *testing.T) {
	for _, l := range [][]api.Item{keyed(5), keyed(0, 5), keyed(1, 2, 3), keyed(1, 2, 3, 4, 5, 6, 7, 8, maxKey)} {
		checkValid(t, l, true)
		for i := range l {
			for _, x := range badItems() {
				x.Key = l[i].Key
				checkInvalid(t, "an item that is not valid", with(l, i, x))
			}
		}
	}
}

func TestKeysThatAreNotAscending(t *testing.T) {
	for _, keys := range [][]uint64{
		{0, 0}, {1, 0}, {7, 7}, {maxKey, maxKey}, {maxKey, 0}, {maxKey, maxKey - 1}, {1 << 63, 1<<63 - 1}, {1 << 63, 1}, {maxKey, 1}, {1 << 32, 1},
		{1, 1, 2}, {1, 2, 2}, {1, 3, 2}, {2, 1, 3}, {3, 1, 2}, {2, 3, 1}, {3, 2, 1}, {1, 1, 1}, {1, 2, 1}, {2, 1, 2}, {0, 1, 0},
		{1, 2, 3, 4, 4}, {1, 2, 3, 4, 3}, {1, 2, 3, 4, 0}, {1, 2, 2, 4, 5}, {1, 3, 2, 4, 5}, {0, 0, 1, 2, 3}, {1, 0, 2, 3, 4}, {5, 1, 2, 3, 4},
	} {
		checkInvalid(t, "keys", keyed(keys...))
	}
}

// Each neighbour in a long list has an equal and a greater key before it.
func TestOneKeyThatIsNotAscending(t *testing.T) {
	r := rand.New(rand.NewSource(3))
	for _, n := range []int{2, 3, 4, 17, 64} {
		l := anyList(r, n)
		for i := 1; i < n; i++ {
			other := l[i]
			other.Key = l[i-1].Key
			checkInvalid(t, "an equal key", with(l, i, other))
			other.Key = l[i-1].Key - 1
			checkInvalid(t, "a smaller key", with(l, i, other))
		}
	}
}

func TestValidOfSequences(t *testing.T) {
	sequences([]uint64{0, 1, 1 << 63, maxKey}, 5, 0, func(l []api.Item) {
		checkValid(t, l, valid(l))
	})
}

// Promise 8.2: Encode.

func TestEncodeByteByByte(t *testing.T) {
	first := []byte{1, 2, 3, 4, 5, 6, 7, 8, 0xa1, 0xb2, 0xc3, 0xd4, 0, 0x0f, 0xed, 0xc8, 0, 0, 0x0b, 0xad, 0xb6, 0x9f, 0x8f, 0x2f}
	second := []byte{0x81, 0x92, 0xa3, 0xb4, 0xc5, 0xd6, 0xe7, 0xf8, 255, 255, 255, 255, 0, 0x10, 0, 0, 0, 0, 0x10, 0, 0xf7, 0x6f, 0xc1, 0x1c}
	third := []byte{255, 255, 255, 255, 255, 255, 255, 255, 0, 0, 0, 0, 0, 0, 0, 16, 0, 0, 0, 0, 0x39, 0xfb, 0x52, 0xcd}
	x := api.Item{Key: 0x0102030405060708, Cookie: 0xa1b2c3d4, Off: 0x0fedc8, Size: 0x0bad}
	y := api.Item{Key: 0x8192a3b4c5d6e7f8, Cookie: math.MaxUint32, Off: maxOff, Size: maxSize}
	z := api.Item{Key: maxKey, Off: minOff}
	for _, c := range []struct {
		l    []api.Item
		want []byte
	}{
		{nil, nil},
		{[]api.Item{}, nil},
		{[]api.Item{x}, first},
		{[]api.Item{y}, second},
		{[]api.Item{z}, third},
		{[]api.Item{x, z}, slices.Concat(first, third)},
		{[]api.Item{x, y, z}, slices.Concat(first, second, third)},
	} {
		checkEncode(t, c.l, c.want)
		checkDecode(t, "byte by byte", c.want, c.l, api.OK)
	}
}

func TestEncode(t *testing.T) {
	for _, l := range lists(rand.New(rand.NewSource(4))) {
		checkEncode(t, l, entries(l))
	}
}

func TestEncodeOfEachOffAndSize(t *testing.T) {
	for off := int64(minOff); off <= maxOff; off += 8 {
		l := []api.Item{{Key: uint64(off), Cookie: 5, Off: off, Size: int(off) % (maxSize + 1)}}
		checkEncode(t, l, entries(l))
		checkDecode(t, "any offset", entries(l), l, api.OK)
	}
	for size := range maxSize + 1 {
		l := []api.Item{{Key: 7, Off: 800, Size: size}}
		checkEncode(t, l, entries(l))
		checkDecode(t, "any size", entries(l), l, api.OK)
	}
}

func TestEncodeReturnsEntryBytesForEachItem(t *testing.T) {
	const n int = index.Entry
	for _, l := range lists(rand.New(rand.NewSource(5))) {
		if b := encode(t, l); len(b) != entry*len(l) || n != entry {
			t.Errorf("%d items: %d bytes, Entry %d", len(l), len(b), n)
		}
	}
}

// Promise 8.2: Decode.

func TestDecode(t *testing.T) {
	for _, l := range lists(rand.New(rand.NewSource(6))) {
		checkDecode(t, "a list", entries(l), l, api.OK)
	}
	checkDecode(t, "nil", nil, nil, api.OK)
	checkDecode(t, "no bytes", []byte{}, nil, api.OK)
}

// What is cut between two entries is a shorter list.
func TestDecodeOfCutLists(t *testing.T) {
	r := rand.New(rand.NewSource(7))
	for _, n := range []int{1, 2, 3, 10} {
		l := anyList(r, n)
		b := entries(l)
		for k := range b {
			if k%entry == 0 {
				checkDecode(t, "fewer entries", b[:k], l[:k/entry], api.OK)
			} else {
				checkNoDecode(t, "a cut entry", b[:k], api.ErrShort)
			}
		}
	}
}

func TestDecodeWithBytesBehind(t *testing.T) {
	r := rand.New(rand.NewSource(8))
	for n := range 4 {
		b := entries(anyList(r, n))
		for k := 1; k < entry; k++ {
			checkNoDecode(t, "bytes 0 behind it", append(bytes.Clone(b), make([]byte, k)...), api.ErrShort)
			checkNoDecode(t, "an entry's first bytes behind it", append(bytes.Clone(b), entries(anyList(r, 1))[:k]...), api.ErrShort)
		}
		checkNoDecode(t, "24 bytes 0 behind it", append(bytes.Clone(b), make([]byte, entry)...), api.ErrCheck)
	}
}

func TestDecodeOfChangedBytes(t *testing.T) {
	r := rand.New(rand.NewSource(9))
	for _, n := range []int{1, 2, 3} {
		b := entries(anyList(r, n))
		for i := range b {
			for v := range 255 {
				checkNoDecode(t, "another byte", changed(b, i, b[i]+1+byte(v)), api.ErrCheck)
			}
		}
	}
}

func TestDecodeOfOtherChecksums(t *testing.T) {
	r := rand.New(rand.NewSource(10))
	for range 20 {
		l := anyList(r, 3)
		first, b, last := entries(l[:1]), opened(l[1].Key, l[1].Cookie, uint32(l[1].Off), uint32(l[1].Size)), entries(l[2:])
		for _, c := range [][]byte{
			binary.BigEndian.AppendUint32(nil, sum(b)),
			binary.LittleEndian.AppendUint32(nil, ^sum(b)),
			binary.LittleEndian.AppendUint32(nil, sum(b[8:])),
			binary.LittleEndian.AppendUint32(nil, sum(b[:16])),
			binary.LittleEndian.AppendUint32(nil, sum(slices.Concat(first, b))),
			make([]byte, 4),
		} {
			checkNoDecode(t, "another checksum", slices.Concat(first, b, c, last), api.ErrCheck)
			checkNoDecode(t, "another checksum of the first entry", slices.Concat(b, c, last), api.ErrCheck)
			checkNoDecode(t, "another checksum of the last entry", slices.Concat(first, b, c), api.ErrCheck)
		}
	}
}

// The checksum fits: only the numbers decide.
func TestDecodeOfNumbersThatAreNotValid(t *testing.T) {
	offs := []uint32{0, 1, 8, 15, 17, 20, 23, maxOff + 1, maxOff + 4, maxOff + 8, 1 << 24, 1<<24 + 16, 1 << 31, 1<<31 + 16, math.MaxUint32 - 7, math.MaxUint32}
	sizes := []uint32{maxSize + 1, maxSize + 2, 1 << 16, 1 << 24, 1 << 31, 1<<31 + 1, math.MaxUint32 - 1, math.MaxUint32}
	var bad [][]byte
	for _, off := range offs {
		bad = append(bad, closed(opened(50, 1, off, 0)), closed(opened(50, math.MaxUint32, off, maxSize)))
	}
	for _, size := range sizes {
		bad = append(bad, closed(opened(50, 1, minOff, size)), closed(opened(50, math.MaxUint32, maxOff, size)))
	}
	smaller, greater := entries(keyed(1, 2, 49)), entries(keyed(51, 60, maxKey))
	for _, b := range bad {
		checkNoDecode(t, "alone", b, api.ErrForm)
		checkNoDecode(t, "at the first place", slices.Concat(b, greater), api.ErrForm)
		checkNoDecode(t, "at a middle place", slices.Concat(smaller, b, greater), api.ErrForm)
		checkNoDecode(t, "at the last place", slices.Concat(smaller, b), api.ErrForm)
	}
	checkDecode(t, "without it", slices.Concat(smaller, greater), append(keyed(1, 2, 49), keyed(51, 60, maxKey)...), api.OK)
}

func TestDecodeOfEachOffAndSize(t *testing.T) {
	seen := map[api.Errno]int{}
	for n := uint32(0); n < 70000; n++ {
		seen[checkLikeChapter(t, "any offset", closed(opened(1, 2, n, 3)))]++
		seen[checkLikeChapter(t, "any offset", closed(opened(1, 2, maxOff-35000+n, 3)))]++
		seen[checkLikeChapter(t, "any size", closed(opened(1, 2, 800, n)))]++
		seen[checkLikeChapter(t, "any offset", closed(opened(1, 2, n*61681, 3)))]++
	}
	if seen[api.OK] < 70000/8+35000/8+maxSize || seen[api.OK]+seen[api.ErrForm] != 4*70000 {
		t.Errorf("%v", seen)
	}
}

func TestDecodeOfKeysThatAreNotAscending(t *testing.T) {
	sequences([]uint64{0, 1, 1 << 63, maxKey}, 4, 0, func(l []api.Item) {
		want, err := slices.Clone(l), api.OK
		if !valid(l) {
			want, err = nil, api.ErrForm
		}
		checkDecode(t, "keys", entries(l), want, err)
	})
}

// Each of four entries has no mistake, a checksum that does not fit, a number
// that is not valid, or a key as before, with all that follows cut off somewhere
// or not: the first ErrShort or ErrCheck is the error, and ErrForm only without them.
func TestDecodeOfSeveralMistakes(t *testing.T) {
	r := rand.New(rand.NewSource(11))
	for mistakes := range 256 {
		for cut := range 4*entry + 1 {
			var b []byte
			want := api.OK
			for i := range 4 {
				x := anyItem(r, uint64(10*i+1))
				kind := mistakes >> (2 * i) & 3
				if kind == 2 {
					x.Off += int64(1 + r.Intn(7))
				}
				if kind == 3 && i > 0 {
					x.Key = uint64(10*i - 9 - r.Intn(2))
				}
				e := entries([]api.Item{x})
				if kind == 1 {
					e[r.Intn(entry)] ^= byte(1 + r.Intn(255))
				}
				b = append(b, e...)
				if want == api.ErrShort || want == api.ErrCheck || cut <= entry*i {
					continue
				}
				switch {
				case cut < entry*(i+1):
					want = api.ErrShort
				case kind == 1:
					want = api.ErrCheck
				case kind == 2 || kind == 3 && i > 0:
					want = api.ErrForm
				}
			}
			if e := checkLikeChapter(t, "several mistakes", b[:cut]); e != want {
				t.Errorf("mistakes %08b, cut at %d: error %d, want %d", mistakes, cut, e, want)
			}
		}
	}
}

// Many of these bytes are lists, and many others have only one mistake.
func TestDecodeOfRandomBytes(t *testing.T) {
	r := rand.New(rand.NewSource(12))
	seen := map[api.Errno]int{}
	for range 50000 {
		l := anyList(r, r.Intn(6))
		if len(l) > 0 && r.Intn(4) == 0 {
			l[r.Intn(len(l))] = anyItem(r, l[r.Intn(len(l))].Key)
		}
		if len(l) > 0 && r.Intn(8) == 0 {
			l[r.Intn(len(l))].Size = maxSize + r.Intn(3)
		}
		b := entries(l)
		if len(b) > 0 && r.Intn(4) == 0 {
			b[r.Intn(len(b))] ^= 1 << r.Intn(8)
		}
		if r.Intn(8) == 0 {
			b = append(b, make([]byte, r.Intn(30))...)
		}
		if len(b) > 0 && r.Intn(8) == 0 {
			b = b[:r.Intn(len(b))]
		}
		seen[checkLikeChapter(t, "random bytes", b)]++
	}
	for _, e := range []api.Errno{api.OK, api.ErrShort, api.ErrForm, api.ErrCheck} {
		if seen[e] < 1000 {
			t.Errorf("error %d only %d times", e, seen[e])
		}
	}
}

// Promise 8.3.

func TestFind(t *testing.T) {
	l := keyed(3, 5, 9, 1<<63, maxKey)
	for i, key := range []uint64{3, 5, 9, 1 << 63, maxKey} {
		checkFind(t, l, key, l[i], true)
	}
	for _, key := range []uint64{0, 1, 2, 4, 6, 8, 10, 1<<63 - 1, 1<<63 + 1, maxKey - 1} {
		checkFind(t, l, key, api.Item{}, false)
	}
	checkFind(t, keyed(0), 0, item(0, 0), true)
	checkFind(t, keyed(7), 0, api.Item{}, false)
	checkFind(t, keyed(7), 8, api.Item{}, false)
	checkFind(t, keyed(7), maxKey, api.Item{}, false)
	checkFind(t, keyed(7), 1<<32+7, api.Item{}, false)
	checkFind(t, keyed(1<<32+7), 7, api.Item{}, false)
}

func TestPut(t *testing.T) {
	a, b, c := item(3, 1), item(5, 2), item(9, 3)
	l := []api.Item{a, b, c}
	for _, s := range []struct {
		key  uint64
		want func(x api.Item) []api.Item
	}{
		{0, func(x api.Item) []api.Item { return []api.Item{x, a, b, c} }},
		{2, func(x api.Item) []api.Item { return []api.Item{x, a, b, c} }},
		{3, func(x api.Item) []api.Item { return []api.Item{x, b, c} }},
		{4, func(x api.Item) []api.Item { return []api.Item{a, x, b, c} }},
		{5, func(x api.Item) []api.Item { return []api.Item{a, x, c} }},
		{8, func(x api.Item) []api.Item { return []api.Item{a, b, x, c} }},
		{9, func(x api.Item) []api.Item { return []api.Item{a, b, x} }},
		{10, func(x api.Item) []api.Item { return []api.Item{a, b, c, x} }},
		{maxKey, func(x api.Item) []api.Item { return []api.Item{a, b, c, x} }},
	} {
		x := item(s.key, 77)
		checkPut(t, l, x, s.want(x))
		checkPut(t, nil, x, []api.Item{x})
	}
	checkPut(t, l, b, l)
}

func TestDrop(t *testing.T) {
	a, b, c := item(3, 1), item(5, 2), item(9, 3)
	l := []api.Item{a, b, c}
	checkDrop(t, l, 3, []api.Item{b, c})
	checkDrop(t, l, 5, []api.Item{a, c})
	checkDrop(t, l, 9, []api.Item{a, b})
	for _, key := range []uint64{0, 2, 4, 6, 8, 10, maxKey} {
		checkDrop(t, l, key, l)
		checkDrop(t, nil, key, nil)
	}
	checkDrop(t, l[:1], 3, nil)
}

func TestMerge(t *testing.T) {
	a, b, c, x, y, z := item(3, 1), item(5, 2), item(9, 3), item(3, 11), item(6, 12), item(9, 13)
	old, fresh := []api.Item{a, b, c}, []api.Item{x, y, z}
	for _, s := range []struct {
		old, fresh []api.Item
		gone       []uint64
		want       []api.Item
	}{
		{nil, nil, nil, nil},
		{nil, nil, []uint64{1, 2}, nil},
		{old, nil, nil, old},
		{nil, fresh, nil, fresh},
		{nil, fresh, []uint64{3, 6, 9}, fresh},
		{old, nil, []uint64{3}, []api.Item{b, c}},
		{old, nil, []uint64{5}, []api.Item{a, c}},
		{old, nil, []uint64{9}, []api.Item{a, b}},
		{old, nil, []uint64{9, 3, 5, 3}, nil},
		{old, nil, []uint64{0, 4, 6, 10, maxKey}, old},
		{old, fresh, nil, []api.Item{x, b, y, z}},
		{old, fresh, []uint64{5}, []api.Item{x, y, z}},
		{old, fresh, []uint64{3, 6, 9}, []api.Item{x, b, y, z}},
		{fresh, old, []uint64{6}, []api.Item{a, b, c}},
		{fresh, old, []uint64{5, 9, 3}, []api.Item{a, b, y, c}},
		{old[:1], fresh[1:], nil, []api.Item{a, y, z}},
		{old[2:], fresh[:2], []uint64{3}, []api.Item{x, y, c}},
	} {
		checkMerge(t, s.old, s.fresh, s.gone, s.want)
	}
}

// Several items with one key: the last one stays.
func TestListsInAnyOrder(t *testing.T) {
	l := keyed(5, 2, 5, 2, 9, 5, 9) // the last ones are at 3, 5 and 6
	last := []api.Item{l[3], l[5], l[6]}
	checkFind(t, l, 2, l[3], true)
	checkFind(t, l, 5, l[5], true)
	checkFind(t, l, 9, l[6], true)
	checkFind(t, l, 3, api.Item{}, false)
	checkPut(t, l, item(5, 77), []api.Item{l[3], item(5, 77), l[6]})
	checkPut(t, l, item(0, 77), append([]api.Item{item(0, 77)}, last...))
	checkPut(t, l, item(10, 77), append(slices.Clone(last), item(10, 77)))
	checkDrop(t, l, 2, []api.Item{l[5], l[6]})
	checkDrop(t, l, 5, []api.Item{l[3], l[6]})
	checkDrop(t, l, 9, []api.Item{l[3], l[5]})
	checkDrop(t, l, 7, last)
	checkMerge(t, l, nil, nil, last)
	checkMerge(t, nil, l, []uint64{2, 5}, last)
	checkMerge(t, l, []api.Item{item(5, 78), item(3, 79), item(5, 80)}, []uint64{9, 3, 5}, []api.Item{l[3], item(3, 79), item(5, 80)})
	same := keyed(4, 4, 4)
	checkFind(t, same, 4, same[2], true)
	checkPut(t, same, item(4, 77), []api.Item{item(4, 77)})
	checkDrop(t, same, 4, nil)
	checkDrop(t, same, 3, same[2:])
	checkMerge(t, same, same[:2], nil, same[1:2])
}

func TestSequencesLikeMaps(t *testing.T) {
	sequences([]uint64{2, 4, 6, maxKey - 1}, 5, 0, func(l []api.Item) {
		for _, key := range []uint64{0, 1, 2, 3, 4, 5, 6, 7, maxKey - 2, maxKey - 1, maxKey} {
			checkLikeMap(t, l, item(key, 77))
		}
	})
}

func TestMergeOfSequences(t *testing.T) {
	var gones [][]uint64
	sequences([]uint64{0, 1, 2, 3}, 2, 0, func(l []api.Item) {
		var gone []uint64
		for _, x := range l {
			gone = append(gone, x.Key)
		}
		gones = append(gones, gone)
	})
	sequences([]uint64{1, 2, 3}, 3, 0, func(old []api.Item) {
		sequences([]uint64{1, 2, 3}, 3, 100, func(fresh []api.Item) {
			for _, gone := range gones {
				checkMerge(t, old, fresh, gone, merged(old, fresh, gone))
			}
		})
	})
}

// steps are the distances of keys: small keys, keys that differ only in their
// upper half, and keys that fill all their bytes.
func steps() []uint64 { return []uint64{1, 1 << 32, 0x9e3779b97f4a7c15} }

// In long lists a sort that does not keep the order of equal keys would show.
func TestLongListsLikeMaps(t *testing.T) {
	r := rand.New(rand.NewSource(13))
	for i := range 300 {
		step, keys := steps()[i%3], uint64(1+r.Intn(400))
		l := make([]api.Item, r.Intn(400))
		for i := range l {
			l[i] = item(step*(r.Uint64()%keys), i)
		}
		for _, other := range [][]api.Item{l, list(table(l))} {
			for range 10 {
				checkLikeMap(t, other, anyItem(r, step*(r.Uint64()%(keys+2))))
			}
		}
	}
}

func TestMergeOfLongLists(t *testing.T) {
	r := rand.New(rand.NewSource(14))
	for i := range 1000 {
		step, keys := steps()[i%3], uint64(1+r.Intn(300))
		old, fresh, gone := make([]api.Item, r.Intn(200)), make([]api.Item, r.Intn(200)), make([]uint64, r.Intn(100))
		for i := range old {
			old[i] = item(step*(r.Uint64()%keys), i)
		}
		for i := range fresh {
			fresh[i] = item(step*(r.Uint64()%keys), 1000+i)
		}
		for i := range gone {
			gone[i] = step * (r.Uint64() % keys)
		}
		want := merged(old, fresh, gone)
		checkMerge(t, old, fresh, gone, want)
		checkMerge(t, list(table(old)), fresh, gone, want)
		checkMerge(t, old, list(table(fresh)), gone, want)
		checkMerge(t, list(table(old)), list(table(fresh)), slices.Sorted(slices.Values(gone)), want)
	}
}

// An item need not be valid: not in the lists, and not the one that is put.
func TestItemsThatAreNotValid(t *testing.T) {
	r := rand.New(rand.NewSource(15))
	for _, x := range badItems() {
		x.Key = 5
		before, behind := keyed(1, 3), keyed(7, 9)
		l := slices.Concat(before, []api.Item{x}, behind)
		checkFind(t, l, 5, x, true)
		checkFind(t, l, 6, api.Item{}, false)
		checkPut(t, slices.Concat(before, behind), x, l)
		checkPut(t, slices.Concat(before, keyed(5), behind), x, l)
		checkPut(t, l, item(5, 77), slices.Concat(before, []api.Item{item(5, 77)}, behind))
		checkDrop(t, l, 5, slices.Concat(before, behind))
		checkDrop(t, l, 6, l)
		checkMerge(t, l, nil, nil, l)
		checkMerge(t, keyed(1, 3, 5), append([]api.Item{x}, behind...), []uint64{5}, slices.Concat(before, []api.Item{x}, behind))
	}
	for range 2000 {
		old, fresh, gone := make([]api.Item, r.Intn(6)), make([]api.Item, r.Intn(6)), make([]uint64, r.Intn(3))
		for i := range old {
			old[i] = badItem(r, r.Uint64()%8)
		}
		for i := range fresh {
			fresh[i] = badItem(r, r.Uint64()%8)
		}
		for i := range gone {
			gone[i] = r.Uint64() % 8
		}
		checkLikeMap(t, old, badItem(r, r.Uint64()%10))
		checkMerge(t, old, fresh, gone, merged(old, fresh, gone))
	}
}

// Promise 8.4.

// What was put is found, what was dropped is not, and no other key is concerned.
func TestPutAndDropConcernOneKey(t *testing.T) {
	r := rand.New(rand.NewSource(16))
	for range 200 {
		l := make([]api.Item, r.Intn(30))
		for i := range l {
			l[i] = anyItem(r, r.Uint64()%20)
		}
		x := anyItem(r, r.Uint64()%22)
		put, dropped := index.Put(l, x), index.Drop(l, x.Key)
		checkFind(t, put, x.Key, x, true)
		checkFind(t, dropped, x.Key, api.Item{}, false)
		for key := range uint64(25) {
			want, found := index.Find(l, key)
			if key != x.Key {
				checkFind(t, put, key, want, found)
				checkFind(t, dropped, key, want, found)
			}
		}
	}
}

// One list and one map go through the same changes.
func TestChangesLikeThoseOfAMap(t *testing.T) {
	r := rand.New(rand.NewSource(17))
	var l []api.Item
	m := map[uint64]api.Item{}
	for range 5000 {
		x := anyItem(r, r.Uint64()%60)
		switch r.Intn(5) {
		case 0, 1:
			l, m[x.Key] = index.Put(l, x), x
		case 2, 3:
			l = index.Drop(l, x.Key)
			delete(m, x.Key)
		case 4:
			y, z := anyItem(r, r.Uint64()%60), r.Uint64()%60
			l = index.Merge(l, []api.Item{x, y}, []uint64{z, x.Key})
			delete(m, z)
			m[x.Key] = x
			m[y.Key] = y
		}
		if want := list(m); !slices.Equal(l, want) {
			t.Fatalf("%v, want %v", l, want)
		}
		checkValid(t, l, true)
		want, found := m[x.Key]
		checkFind(t, l, x.Key, want, found)
	}
}

func TestDecodeRestoresWhatEncodeWrites(t *testing.T) {
	for _, l := range lists(rand.New(rand.NewSource(18))) {
		checkDecode(t, "what Encode writes", encode(t, l), l, api.OK)
	}
}

// What Decode accepts is what Encode writes: no other bytes are the list.
func TestDecodeAcceptsOnlyWhatEncodeWrites(t *testing.T) {
	r := rand.New(rand.NewSource(19))
	accepted := 0
	for range 50000 {
		l := anyList(r, r.Intn(4))
		for i := range l {
			l[i].Off += 4 * int64(r.Intn(3))
		}
		b := entries(l)
		if len(b) > 0 && r.Intn(4) == 0 {
			b[r.Intn(len(b))] ^= 1 << r.Intn(8)
		}
		l, e := index.Decode(b)
		if e != api.OK {
			continue
		}
		accepted++
		checkValid(t, l, true)
		checkEncode(t, l, b)
	}
	if accepted < 10000 {
		t.Errorf("only %d accepted", accepted)
	}
}

// checkBurst changes the first and the last bit of a range of the entry at
// place, and those between them that inner names. Bits are counted as in 1.4, in
// each byte from the least significant one: counted from the other end, 32
// consecutive bits may span 40, and 8.4 would not hold for all of them.
func checkBurst(t *testing.T, b []byte, place, from, length int, inner uint32) {
	t.Helper()
	other := bytes.Clone(b)
	for i := range length {
		if bit := from + i; i == 0 || i == length-1 || inner>>i&1 == 1 {
			other[place*entry+bit/8] ^= 1 << (bit % 8)
		}
	}
	if l, e := index.Decode(other); e != api.ErrCheck || len(l) != 0 {
		t.Errorf("%v: entry %d, %d bits from %d on, pattern %#x: %v, error %d", b, place, length, from, inner, l, e)
	}
}

// The entry is the only one, the first, a middle or the last one.
func TestEveryShortBurstIsNoticed(t *testing.T) {
	r := rand.New(rand.NewSource(20))
	for _, l := range [][]api.Item{{{Off: minOff}}, keyed(maxKey), anyList(r, 1), anyList(r, 3), anyList(r, 4)} {
		b := encode(t, l)
		for place := range l {
			for from := range 8 * entry {
				for length := 1; length <= 32 && from+length <= 8*entry; length++ {
					checkBurst(t, b, place, from, length, math.MaxUint32)
					checkBurst(t, b, place, from, length, 0)
					checkBurst(t, b, place, from, length, r.Uint32())
				}
			}
		}
	}
}

func TestEveryPatternOfAVeryShortBurstIsNoticed(t *testing.T) {
	b := encode(t, anyList(rand.New(rand.NewSource(21)), 2))
	for place := range 2 {
		for from := range 8 * entry {
			for length := 1; length <= 11 && from+length <= 8*entry; length++ {
				for inner := uint32(0); inner < 1<<length; inner += 2 {
					checkBurst(t, b, place, from, length, inner)
				}
			}
		}
	}
}

// The effects of changes add up, so no change of 32 bits goes unnoticed in any
// entry if the effects of the single bits are linearly independent: this covers
// all patterns.
func TestBitsOfAWindowAreIndependent(t *testing.T) {
	b := encode(t, anyList(rand.New(rand.NewSource(22)), 1))
	effects := make([]uint32, 8*entry)
	for i := range effects {
		other := changed(b, i/8, b[i/8]^1<<(i%8))
		effects[i] = sum(other[:before]) ^ binary.LittleEndian.Uint32(other[before:])
	}
	for from := range len(effects) - 31 {
		if !independent(effects[from : from+32]) {
			t.Errorf("from bit %d on: not independent", from)
		}
	}
}

// independent reports whether no choice of numbers of l adds up to 0. What is
// left of each number has none of the leading bits of those before it.
func independent(l []uint32) bool {
	var rests []uint32
	for _, v := range l {
		for _, rest := range rests {
			v = min(v, v^rest)
		}
		if v == 0 {
			return false
		}
		rests = append(rests, v)
	}
	return true
}

// Rules R3 and R4, and rule 7 of LANGUAGE.md.

// guarded returns a copy of l with other elements before and behind it in the
// same memory, and a function that reports whether this memory is still the same.
func guarded[T comparable](l []T, other T) ([]T, func() bool) {
	memory := slices.Concat([]T{other, other}, l, []T{other, other, other})
	kept := slices.Clone(memory)
	return memory[2 : 2+len(l)], func() bool { return slices.Equal(memory, kept) }
}

// checkOwnMemory checks that a call leaves its arguments, that a changed result
// does not change them, and that changed arguments do not change the result.
func checkOwnMemory(t *testing.T, what string, old, fresh []api.Item, gone []uint64, call func(old, fresh []api.Item, gone []uint64) []api.Item) {
	t.Helper()
	x, sameOld := guarded(old, item(4, 500))
	y, sameFresh := guarded(fresh, item(5, 501))
	z, sameGone := guarded(gone, 1)
	first, second := call(x, y, z), call(x, y, z)
	want := slices.Clone(second)
	clear(first[:cap(first)])
	if !sameOld() || !sameFresh() || !sameGone() {
		t.Errorf("%s of %v, %v, %v: an argument is changed", what, brief(old), brief(fresh), brief(gone))
	}
	clear(x[:cap(x)])
	clear(y[:cap(y)])
	clear(z[:cap(z)])
	if !slices.Equal(second, want) {
		t.Errorf("%s of %v, %v, %v: the result changes", what, brief(old), brief(fresh), brief(gone))
	}
}

func TestListsHaveMemoryOfTheirOwn(t *testing.T) {
	l := [][]api.Item{nil, keyed(2), keyed(2, 3, 4), keyed(1, 2, 3, 4, 5, 6), keyed(3, 2, 3, 1), keyed(4, 4, 4, 4), keyed(6, 5, 4, 3, 2, 1, 1)}
	for _, old := range l {
		for _, fresh := range l {
			for _, gone := range [][]uint64{nil, {2}, {3, 1}, {7, 7, 5}} {
				checkOwnMemory(t, "Merge", old, fresh, gone, index.Merge)
			}
		}
		for key := range uint64(9) {
			checkOwnMemory(t, "Put", old, nil, nil, func(old, _ []api.Item, _ []uint64) []api.Item { return index.Put(old, item(key, 77)) })
			checkOwnMemory(t, "Drop", old, nil, nil, func(old, _ []api.Item, _ []uint64) []api.Item { return index.Drop(old, key) })
		}
	}
}

func TestOtherArgumentsStay(t *testing.T) {
	for _, l := range [][]api.Item{nil, keyed(2), keyed(1, 2, 3), keyed(3, 2, 3, 1), badItems(), keyed(6, 5, 4, 3, 2, 1, 1)} {
		x, same := guarded(l, item(4, 500))
		index.Valid(x)
		index.Encode(x)
		for key := range uint64(8) {
			index.Find(x, key)
		}
		if !same() {
			t.Errorf("%v became %v", brief(l), brief(x))
		}
	}
}

func TestDecodeLeavesItsArgument(t *testing.T) {
	l := keyed(1, 2, 3)
	b := entries(l)
	bad := [][]byte{b, b[:50], entries(keyed(2, 1)), entries(badItems()), make([]byte, 2*entry)}
	for i := range b {
		bad = append(bad, changed(b, i, ^b[i]))
	}
	for _, x := range bad {
		x, same := guarded(x, 7)
		index.Decode(x)
		if !same() {
			t.Errorf("the argument became %v", brief(x))
		}
	}
	decoded, _ := index.Decode(b)
	clear(b)
	if !slices.Equal(decoded, l) {
		t.Errorf("the list changes with the argument: %v, want %v", decoded, l)
	}
}

func TestBytesAndListsAreNewEachTime(t *testing.T) {
	l := keyed(1, 2, 3)
	first, second := encode(t, l), encode(t, l)
	clear(first[:cap(first)])
	if !bytes.Equal(second, entries(l)) || !slices.Equal(l, keyed(1, 2, 3)) {
		t.Errorf("Encode: results share memory: %v", second)
	}
	x, _ := index.Decode(second)
	y, _ := index.Decode(second)
	clear(x[:cap(x)])
	if !slices.Equal(y, l) || !bytes.Equal(second, entries(l)) {
		t.Errorf("Decode: results share memory: %v", y)
	}
}

func TestCallsLeaveNoTrace(t *testing.T) {
	l, odd := keyed(1, 5, 9), keyed(5, 2, 5)
	for range 2 {
		checkValid(t, l, true)
		checkValid(t, odd, false)
		checkEncode(t, l, entries(l))
		checkInvalid(t, "in any order", odd)
		checkDecode(t, "once more", entries(l), l, api.OK)
		checkNoDecode(t, "a cut list", entries(l)[:30], api.ErrShort)
		checkNoDecode(t, "in any order", entries(odd), api.ErrForm)
		checkFind(t, l, 5, l[1], true)
		checkFind(t, odd, 5, odd[2], true)
		checkFind(t, odd, 1, api.Item{}, false)
		checkPut(t, l, item(7, 77), []api.Item{l[0], l[1], item(7, 77), l[2]})
		checkDrop(t, l, 5, []api.Item{l[0], l[2]})
		checkMerge(t, l, odd, []uint64{9}, []api.Item{l[0], odd[1], odd[2]})
	}
}
