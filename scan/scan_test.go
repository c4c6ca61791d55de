package scan_test

import (
	"bytes"
	"encoding/binary"
	"hash/crc32"
	"maps"
	"math"
	"math/rand"
	"slices"
	"testing"

	"needlestore/api"
	"needlestore/needle"
	"needlestore/scan"
	"needlestore/superblock"
)

// The numbers are written out, so that changed constants are noticed.
const (
	superSize  = 16
	maxPayload = 4096
	maxFile    = 1048576
	maxKey     = math.MaxUint64
)

// super is the superblock of most files of the tests.
func super() api.Super { return api.Super{Slot: 1, Gen: 2, Rev: 3} }

func sum(b []byte) uint32 { return crc32.Checksum(b, crc32.MakeTable(crc32.Castagnoli)) }

func closed(b []byte) []byte { return binary.LittleEndian.AppendUint32(b, sum(b)) }

// block is 7.1 word for word. It writes superblocks that are not valid too.
func block(s api.Super) []byte {
	b := binary.BigEndian.AppendUint16([]byte("NVOL"), uint16(s.Slot))
	b = binary.BigEndian.AppendUint16(b, uint16(s.Gen))
	return closed(binary.BigEndian.AppendUint32(b, uint32(s.Rev)))
}

// record is 6.1 word for word. It writes needles that are not valid too.
func record(x api.Needle) []byte {
	b := []byte{78, 165, 0, 0}
	if x.Deleted {
		b[2] = 1
	}
	b = binary.BigEndian.AppendUint32(b, x.Cookie)
	b = binary.BigEndian.AppendUint64(b, x.Key)
	b = binary.BigEndian.AppendUint32(b, uint32(len(x.Data)))
	b = closed(append(b, x.Data...))
	for len(b)%8 != 0 {
		b = append(b, 0)
	}
	return b
}

// size is needle.Size of 6.1.
func size(n int) int64 {
	if n < 0 || n > maxPayload {
		return 0
	}
	return int64(n+24+7) / 8 * 8
}

// volume returns a volume file with these bytes behind its superblock.
func volume(parts ...[]byte) []byte { return slices.Concat(block(super()), slices.Concat(parts...)) }

// records returns the records of needles, one after the other.
func records(l []api.Needle) []byte {
	var b []byte
	for _, x := range l {
		b = append(b, record(x)...)
	}
	return b
}

// placed returns what is found where the records of l follow one another from off on.
func placed(off int64, l []api.Needle) []scan.Record {
	var found []scan.Record
	for _, x := range l {
		found = append(found, scan.Record{Off: off, Needle: x})
		off += int64(len(record(x)))
	}
	return found
}

// complete returns the records of l that end in the first n bytes of a file, and the end of the last one.
func complete(l []scan.Record, n int) ([]scan.Record, int64) {
	end := int64(superSize)
	for i, x := range l {
		behind := x.Off + int64(len(record(x.Needle)))
		if behind > int64(n) {
			return l[:i], end
		}
		end = behind
	}
	return l, end
}

// follow is 9.1 word for word, from off on.
func follow(b []byte, off int64) ([]scan.Record, int64) {
	if off > int64(len(b)) {
		return nil, off
	}
	x, n, e := needle.Decode(b[off:])
	if e != api.OK {
		return nil, off
	}
	l, end := follow(b, off+int64(n))
	return append([]scan.Record{{Off: off, Needle: x}}, l...), end
}

// salvage is 9.3 word for word: of all the offsets, those within a record that was taken are left out.
func salvage(b []byte) []scan.Record {
	var l []scan.Record
	behind := superSize
	for off := superSize; off < len(b); off += 8 {
		if off < behind {
			continue
		}
		if x, n, e := needle.Decode(b[off:]); e == api.OK {
			l = append(l, scan.Record{Off: int64(off), Needle: x})
			behind = off + n
		}
	}
	return l
}

// items is what 9.2 says of Items: a plain map to which the records are done in order.
func items(l []scan.Record) []api.Item {
	m := map[uint64]api.Item{}
	for _, x := range l {
		if x.Needle.Deleted {
			delete(m, x.Needle.Key)
		} else {
			m[x.Needle.Key] = api.Item{Key: x.Needle.Key, Cookie: x.Needle.Cookie, Off: x.Off, Size: len(x.Needle.Data)}
		}
	}
	var found []api.Item
	for _, key := range slices.Sorted(maps.Keys(m)) {
		found = append(found, m[key])
	}
	return found
}

// sums is what 9.2 says of Bytes.
func sums(l []scan.Record) (live, garbage int64) {
	for _, x := range l {
		garbage += size(len(x.Needle.Data))
	}
	for _, x := range items(l) {
		live += size(x.Size)
		garbage -= size(x.Size)
	}
	return live, garbage
}

// content returns n bytes in which nothing looks like a header.
func content(r *rand.Rand, n int) []byte {
	b := make([]byte, n)
	for i := range b {
		b[i] = byte(79 + r.Intn(177))
	}
	return b
}

// put returns a needle with n bytes of data, and gone a tombstone.
func put(r *rand.Rand, key uint64, n int) api.Needle {
	return api.Needle{Key: key, Cookie: r.Uint32(), Data: content(r, n)}
}

func gone(r *rand.Rand, key uint64) api.Needle {
	return api.Needle{Key: key, Cookie: r.Uint32(), Deleted: true}
}

// mixed returns n needles with up to most bytes of data, of which every fourth or so is a tombstone, and many have one key.
func mixed(r *rand.Rand, n, most int) []api.Needle {
	var l []api.Needle
	for range n {
		key := r.Uint64()
		if r.Intn(2) == 0 {
			key = []uint64{0, 1, 7, maxKey - 1, maxKey}[r.Intn(5)]
		}
		x := put(r, key, r.Intn(most+1))
		if r.Intn(4) == 0 {
			x = gone(r, key)
		}
		l = append(l, x)
	}
	return l
}

// few returns short records of different lengths, with tombstones among them.
func few(r *rand.Rand) []api.Needle {
	return []api.Needle{put(r, 5, 3), gone(r, 5), put(r, maxKey, 0), put(r, 0, 9), put(r, 5, 4), gone(r, 0), put(r, 1<<63, 13)}
}

// changed returns b with another byte at i.
func changed(b []byte, i int, x byte) []byte {
	b = bytes.Clone(b)
	b[i] = x
	return b
}

func sameNeedle(a, b api.Needle) bool {
	return a.Key == b.Key && a.Cookie == b.Cookie && a.Deleted == b.Deleted && bytes.Equal(a.Data, b.Data)
}

func same(a, b []scan.Record) bool {
	return slices.EqualFunc(a, b, func(x, y scan.Record) bool { return x.Off == y.Off && sameNeedle(x.Needle, y.Needle) })
}

// brief returns what the error of a test says of a list of records.
func brief(l []scan.Record) []api.Item {
	var x []api.Item
	for _, r := range l[:min(len(l), 12)] {
		x = append(x, api.Item{Key: r.Needle.Key, Cookie: r.Needle.Cookie, Off: r.Off, Size: len(r.Needle.Data)})
	}
	return x
}

func checkOpen(t *testing.T, what string, b []byte, want []scan.Record, end int64) {
	t.Helper()
	checkOpenAs(t, what, b, super(), want, end)
}

func checkOpenAs(t *testing.T, what string, b []byte, s api.Super, want []scan.Record, end int64) {
	t.Helper()
	x, l, n, e := scan.Open(b)
	if x != s || !same(l, want) || n != end || e != api.OK {
		t.Errorf("%s: Open of %d bytes = %v, %d records %v, end %d, error %d, want %v, %d records %v, end %d",
			what, len(b), x, len(l), brief(l), n, e, s, len(want), brief(want), end)
	}
}

func checkNoOpen(t *testing.T, what string, b []byte, err api.Errno) {
	t.Helper()
	if s, l, end, e := scan.Open(b); s != (api.Super{}) || len(l) != 0 || end != 0 || e != err {
		t.Errorf("%s: Open of %d bytes = %v, %d records, end %d, error %d, want error %d", what, len(b), s, len(l), end, e, err)
	}
}

func checkSalvage(t *testing.T, what string, b []byte, want []scan.Record) {
	t.Helper()
	if l := scan.Salvage(b); !same(l, want) {
		t.Errorf("%s: Salvage of %d bytes = %d records %v, want %d records %v", what, len(b), len(l), brief(l), len(want), brief(want))
	}
}

// checkItems checks Items, and Bytes by the Sizes of its items.
func checkItems(t *testing.T, l []scan.Record, want []api.Item) {
	t.Helper()
	x := scan.Items(l)
	if !slices.Equal(x, want) {
		t.Errorf("Items of %d records %v = %v, want %v", len(l), brief(l), x, want)
	}
	live, garbage := sums(l)
	checkBytes(t, l, live, garbage)
}

func checkBytes(t *testing.T, l []scan.Record, live, garbage int64) {
	t.Helper()
	if x, y := scan.Bytes(l); x != live || y != garbage {
		t.Errorf("Bytes of %d records %v = %d, %d, want %d, %d", len(l), brief(l), x, y, live, garbage)
	}
}

// The chapter's examples.

func TestExamples(t *testing.T) {
	checkOpen(t, "a superblock alone", block(super()), nil, 16)
	checkNoOpen(t, "no bytes", nil, api.ErrShort)
	checkNoOpen(t, "no bytes", []byte{}, api.ErrShort)
	l := []api.Needle{{Key: 7, Cookie: 1, Data: []byte("bytes")}, {Key: 7, Deleted: true}}
	checkItems(t, placed(16, l), nil)
}

// Promise 9.1: the superblock.

func TestOpenByteByByte(t *testing.T) {
	b := closed([]byte{'N', 'V', 'O', 'L', 0, 3, 0, 8, 1, 2, 3, 4})
	b = append(b, closed([]byte{78, 165, 0, 0, 9, 8, 7, 6, 1, 2, 3, 4, 5, 6, 7, 8, 0, 0, 0, 3, 'a', 'b', 'c'})...)
	b = append(b, 0, 0, 0, 0, 0)
	b = append(b, closed([]byte{78, 165, 1, 0, 5, 4, 3, 2, 8, 7, 6, 5, 4, 3, 2, 1, 0, 0, 0, 0})...)
	b = append(b, closed([]byte{78, 165, 0, 0, 0, 0, 0, 1, 0, 0, 0, 0, 0, 0, 0, 0, 0, 0, 0, 4, 0, 1, 2, 3})...)
	b = append(b, 0, 0, 0, 0, 78, 165, 0, 0)
	want := []scan.Record{
		{Off: 16, Needle: api.Needle{Key: 0x0102030405060708, Cookie: 0x09080706, Data: []byte("abc")}},
		{Off: 48, Needle: api.Needle{Key: 0x0807060504030201, Cookie: 0x05040302, Deleted: true}},
		{Off: 72, Needle: api.Needle{Cookie: 1, Data: []byte{0, 1, 2, 3}}},
	}
	checkOpenAs(t, "byte by byte", b, api.Super{Slot: 3, Gen: 8, Rev: 0x01020304}, want, 104)
	checkSalvage(t, "byte by byte", b, want)
	checkItems(t, want, []api.Item{{Cookie: 1, Off: 72, Size: 4}, {Key: 0x0102030405060708, Cookie: 0x09080706, Off: 16, Size: 3}})
	checkBytes(t, want, 64, 24)
}

func TestOpenOfEachSuperblock(t *testing.T) {
	l := few(rand.New(rand.NewSource(1)))
	for slot := range 4 {
		for gen := 1; gen <= 8; gen++ {
			for _, rev := range []int64{0, 1, 255, 256, 65536, 1 << 31, 1<<32 - 1} {
				s := api.Super{Slot: slot, Gen: gen, Rev: rev}
				checkOpenAs(t, "a superblock alone", block(s), s, nil, 16)
				whole := append(block(s), records(l)...)
				checkOpenAs(t, "a superblock and records", whole, s, placed(16, l), int64(len(whole)))
			}
		}
	}
}

func TestOpenOfCutSuperblocks(t *testing.T) {
	other := changed(block(super()), 2, 'x')
	for _, b := range [][]byte{block(super()), other, make([]byte, superSize), records(few(rand.New(rand.NewSource(2))))} {
		for n := range superSize {
			checkNoOpen(t, "a cut superblock", b[:n], api.ErrShort)
		}
	}
}

func TestOpenOfChangedSuperblocks(t *testing.T) {
	behind := records(few(rand.New(rand.NewSource(3))))
	for i := range superSize {
		want := api.ErrCheck
		if i < 4 {
			want = api.ErrForm
		}
		for d := 1; d < 256; d++ {
			b := block(super())
			b[i] ^= byte(d)
			checkNoOpen(t, "a changed superblock", b, want)
			checkNoOpen(t, "a changed superblock before records", append(b, behind...), want)
		}
	}
}

func TestOpenOfSuperblocksThatAreNotValid(t *testing.T) {
	behind := records(few(rand.New(rand.NewSource(4))))
	for slot := range 10 {
		for gen := range 20 {
			if slot < 4 && gen >= 1 && gen <= 8 {
				continue
			}
			b := block(api.Super{Slot: slot, Gen: gen, Rev: 5})
			checkNoOpen(t, "numbers that are not valid", b, api.ErrForm)
			checkNoOpen(t, "numbers that are not valid before records", append(b, behind...), api.ErrForm)
			b[superSize-1]++
			checkNoOpen(t, "numbers and a checksum that are not valid", b, api.ErrCheck)
			b[0]++
			checkNoOpen(t, "nothing that is valid", b, api.ErrForm)
			checkNoOpen(t, "nothing that is valid, cut", b[:superSize-1], api.ErrShort)
		}
	}
}

func TestOpenOfFilesWithoutSuperblock(t *testing.T) {
	b := records(few(rand.New(rand.NewSource(5))))
	checkNoOpen(t, "records alone", b, api.ErrForm)
	checkNoOpen(t, "bytes 0", make([]byte, 100), api.ErrForm)
	checkNoOpen(t, "a superblock that is not at the beginning", append([]byte{0}, volume(b)...), api.ErrForm)
}

// Promise 9.1: the records.

func TestOpenOfEachLength(t *testing.T) {
	r := rand.New(rand.NewSource(6))
	for n := range maxPayload + 1 {
		l := []api.Needle{put(r, r.Uint64(), n), gone(r, r.Uint64())}
		checkOpen(t, "one record", volume(record(l[0])), placed(16, l[:1]), 16+size(n))
		checkOpen(t, "a record and a tombstone", volume(records(l)), placed(16, l), 16+size(n)+24)
	}
}

// The file is longer than MaxFile: the chapter has no limit for it.
func TestAllLengths(t *testing.T) {
	r := rand.New(rand.NewSource(7))
	var l []api.Needle
	for _, n := range r.Perm(maxPayload + 1) {
		l = append(l, put(r, uint64(n), n))
		if n%3 == 0 {
			l = append(l, gone(r, uint64(n)))
		}
	}
	whole := volume(records(l))
	if len(whole) < 2*maxFile {
		t.Fatalf("%d bytes", len(whole))
	}
	checkOpen(t, "records of all lengths", whole, placed(16, l), int64(len(whole)))
	checkSalvage(t, "records of all lengths", whole, placed(16, l))
}

func TestOpenOfManyRecords(t *testing.T) {
	r := rand.New(rand.NewSource(8))
	for n := range 200 {
		l := mixed(r, n, 20)
		b := volume(records(l))
		checkOpen(t, "many records", b, placed(16, l), int64(len(b)))
	}
	l := mixed(r, 30000, 10)
	b := volume(records(l))
	checkOpen(t, "very many records", b, placed(16, l), int64(len(b)))
}

func TestOpenReturnsEachRecord(t *testing.T) {
	r := rand.New(rand.NewSource(9))
	x := put(r, 4, 10)
	l := []api.Needle{x, x, gone(r, 4), gone(r, 4), x, put(r, 3, 0), put(r, 4, 0), gone(r, 9), x}
	b := volume(records(l))
	checkOpen(t, "one key again and again", b, placed(16, l), int64(len(b)))
}

func TestOpenOfCutFiles(t *testing.T) {
	r := rand.New(rand.NewSource(10))
	files := [][]api.Needle{few(r), {gone(r, 1), gone(r, 2), gone(r, 3)}, {put(r, 1, maxPayload), put(r, 2, maxPayload-1)}}
	for n := range 17 {
		files = append(files, []api.Needle{put(r, 1, n), put(r, 2, 2*n), gone(r, 1)})
	}
	for _, l := range files {
		whole := volume(records(l))
		for n := range whole[superSize:] {
			n += superSize
			want, end := complete(placed(16, l), n)
			checkOpen(t, "a cut file", whole[:n], want, end)
		}
		checkOpen(t, "a whole file", whole, placed(16, l), int64(len(whole)))
	}
}

func TestOpenOfChangedRecords(t *testing.T) {
	l := few(rand.New(rand.NewSource(11)))
	whole := volume(records(l))
	for i := range whole[superSize:] {
		i += superSize
		want, end := complete(placed(16, l), i)
		for d := 1; d < 256; d++ {
			checkOpen(t, "a changed record", changed(whole, i, whole[i]^byte(d)), want, end)
		}
	}
}

func TestOpenOfLongChangedRecords(t *testing.T) {
	r := rand.New(rand.NewSource(12))
	l := []api.Needle{put(r, 1, 20), put(r, 2, maxPayload), put(r, 3, 20)}
	whole := volume(records(l))
	for i := range whole[superSize:] {
		i += superSize
		want, end := complete(placed(16, l), i)
		checkOpen(t, "a changed record", changed(whole, i, whole[i]^byte(1+r.Intn(255))), want, end)
	}
}

// spoiled returns bytes that are nearly a record, and of which only one thing makes them none.
func spoiled(r *rand.Rand) [][]byte {
	padded := record(put(r, 1, 3))
	padded[len(padded)-1] = 1
	kind := closed([]byte{78, 165, 2, 0, 0, 0, 0, 0, 0, 0, 0, 0, 0, 0, 0, 0, 0, 0, 0, 0})
	fourth := closed([]byte{78, 165, 0, 1, 0, 0, 0, 0, 0, 0, 0, 0, 0, 0, 0, 0, 0, 0, 0, 0})
	marked := closed([]byte{78, 166, 0, 0, 0, 0, 0, 0, 0, 0, 0, 0, 0, 0, 0, 0, 0, 0, 0, 0})
	return [][]byte{
		padded, kind, fourth, marked,
		record(put(r, 1, maxPayload+1)), record(put(r, 1, 2*maxPayload)),
		record(api.Needle{Key: 1, Deleted: true, Data: content(r, 1)}), record(api.Needle{Key: 1, Deleted: true, Data: content(r, 8)}),
	}
}

func TestOpenEndsAtTheFirstInvalidRecord(t *testing.T) {
	r := rand.New(rand.NewSource(13))
	l := few(r)
	for _, bad := range spoiled(r) {
		for n := range len(l) + 1 {
			before, behind := records(l[:n]), records(l[n:])
			checkOpen(t, "a record that is not valid", volume(before, bad, behind), placed(16, l[:n]), int64(superSize+len(before)))
		}
	}
}

// Promise 9.4: what stands behind the last complete record.

// tails returns bytes that do not begin with a record: none, bytes 0 and others,
// cut and changed records, and all these with records behind them.
func tails(r *rand.Rand) [][]byte {
	l := [][]byte{nil}
	for n := 1; n <= 40; n++ {
		random := make([]byte, n)
		r.Read(random)
		l = append(l, make([]byte, n), bytes.Repeat([]byte{255}, n), random, bytes.Repeat([]byte{78, 165, 0, 0}, n))
	}
	for _, x := range []api.Needle{put(r, 8, 0), put(r, 9, 21), gone(r, 8)} {
		b := record(x)
		for n := range b {
			l = append(l, b[:n], b[n+1:], changed(b, n, ^b[n]))
		}
	}
	l = append(l, spoiled(r)...)
	for _, x := range slices.Clone(l) {
		if len(x) > 0 {
			l = append(l, slices.Concat(x, records(few(r))), slices.Concat(x, block(super())))
		}
	}
	return append(l, volume(records(few(r))), make([]byte, maxFile))
}

func TestOpenWithBytesBehind(t *testing.T) {
	r := rand.New(rand.NewSource(14))
	for _, tail := range tails(r) {
		for _, l := range [][]api.Needle{nil, {gone(r, 4)}, {put(r, 4, 7)}, few(r)} {
			b := volume(records(l))
			checkOpen(t, "bytes behind", slices.Concat(b, tail), placed(16, l), int64(len(b)))
		}
	}
}

func TestWhatWasWrittenIsReadBack(t *testing.T) {
	r := rand.New(rand.NewSource(15))
	for range 2000 {
		l := mixed(r, r.Intn(12), 60)
		b := volume(records(l))
		kept := bytes.Clone(b)
		torn := record(put(r, r.Uint64(), r.Intn(60)))
		b = append(b, torn[:r.Intn(len(torn))]...)
		checkOpen(t, "a torn write", b, placed(16, l), int64(len(kept)))
		want := items(placed(16, l))
		_, found, end, _ := scan.Open(b)
		if x := scan.Items(found); !slices.Equal(x, want) {
			t.Errorf("items %v, want %v", x, want)
		}
		if live, garbage := scan.Bytes(found); superSize+live+garbage != end {
			t.Errorf("%d live bytes and %d others up to %d", live, garbage, end)
		}
		again := append(b[:end:end], record(gone(r, 1))...)
		if x, y, _, _ := scan.Open(again); x != super() || len(y) != len(l)+1 || y[len(l)].Off != int64(len(kept)) {
			t.Errorf("a record at the end is not read back: %v", brief(y))
		}
	}
}

// Promise 9.2.

func TestItemsOfNoRecords(t *testing.T) {
	checkItems(t, nil, nil)
	checkItems(t, []scan.Record{}, nil)
	checkBytes(t, nil, 0, 0)
}

func TestItemsOfOneRecord(t *testing.T) {
	r := rand.New(rand.NewSource(16))
	for _, key := range []uint64{0, 1, 1 << 32, 1 << 63, maxKey} {
		x := put(r, key, 10)
		checkItems(t, placed(40, []api.Needle{x}), []api.Item{{Key: key, Cookie: x.Cookie, Off: 40, Size: 10}})
		checkBytes(t, placed(40, []api.Needle{x}), 40, 0)
		checkItems(t, placed(40, []api.Needle{gone(r, key)}), nil)
		checkBytes(t, placed(40, []api.Needle{gone(r, key)}), 0, 24)
	}
}

func TestItemsOfANeedleAndItsTombstone(t *testing.T) {
	r := rand.New(rand.NewSource(17))
	for _, key := range []uint64{0, 3, maxKey} {
		x, y := put(r, key, 9), gone(r, key)
		checkItems(t, placed(16, []api.Needle{x, y}), nil)
		checkBytes(t, placed(16, []api.Needle{x, y}), 0, 64)
		checkItems(t, placed(16, []api.Needle{y, x}), []api.Item{{Key: key, Cookie: x.Cookie, Off: 40, Size: 9}})
		checkBytes(t, placed(16, []api.Needle{y, x}), 40, 24)
		checkItems(t, placed(16, []api.Needle{x, y, x}), []api.Item{{Key: key, Cookie: x.Cookie, Off: 80, Size: 9}})
		checkBytes(t, placed(16, []api.Needle{x, y, x}), 40, 64)
		checkItems(t, placed(16, []api.Needle{x, x}), []api.Item{{Key: key, Cookie: x.Cookie, Off: 56, Size: 9}})
		checkBytes(t, placed(16, []api.Needle{x, x}), 40, 40)
	}
}

func TestItemsAreAscending(t *testing.T) {
	r := rand.New(rand.NewSource(18))
	keys := []uint64{0, 1, 2, 255, 256, 1<<31 - 1, 1 << 31, 1 << 32, 1<<63 - 1, 1 << 63, 1<<63 + 1, maxKey - 1, maxKey}
	for range 200 {
		var l []api.Needle
		for _, i := range r.Perm(len(keys)) {
			l = append(l, put(r, keys[i], i))
		}
		x := scan.Items(placed(16, l))
		for i, key := range keys {
			if len(x) != len(keys) || x[i].Key != key || x[i].Size != i {
				t.Fatalf("items %v", x)
			}
		}
		checkItems(t, placed(16, l), items(placed(16, l)))
	}
}

func TestItemsOfEachLength(t *testing.T) {
	r := rand.New(rand.NewSource(19))
	for n := range maxPayload + 1 {
		l := placed(16, []api.Needle{put(r, 1, n), put(r, 2, maxPayload-n), gone(r, 2)})
		checkItems(t, l, []api.Item{{Key: 1, Cookie: l[0].Needle.Cookie, Off: 16, Size: n}})
		checkBytes(t, l, size(n), size(maxPayload-n)+24)
	}
}

// sequences calls f with every sequence of at most n of the needles of l.
func sequences(l []api.Needle, n int, f func([]api.Needle)) {
	var chosen []api.Needle
	var extend func()
	extend = func() {
		f(chosen)
		if len(chosen) == n {
			return
		}
		for _, x := range l {
			chosen = append(chosen, x)
			extend()
			chosen = chosen[:len(chosen)-1]
		}
	}
	extend()
}

func TestItemsOfSequences(t *testing.T) {
	r := rand.New(rand.NewSource(20))
	three := []api.Needle{put(r, 0, 1), gone(r, 0), put(r, maxKey, 20), gone(r, maxKey), put(r, 8, 0)}
	sequences(three, 5, func(l []api.Needle) { checkItems(t, placed(16, l), items(placed(16, l))) })
	one := []api.Needle{put(r, 4, 0), put(r, 4, 1), put(r, 4, 9), gone(r, 4)}
	sequences(one, 6, func(l []api.Needle) { checkItems(t, placed(16, l), items(placed(16, l))) })
}

func TestItemsOfManyRecords(t *testing.T) {
	r := rand.New(rand.NewSource(21))
	for n := range 300 {
		l := placed(16, mixed(r, n, 50))
		checkItems(t, l, items(l))
	}
	l := placed(16, mixed(r, 40000, 10))
	checkItems(t, l, items(l))
	var one, all []api.Needle
	for i := range 20000 {
		one = append(one, put(r, 6, i%7))
		all = append(all, put(r, uint64(20000-i)<<40, i%7))
	}
	checkItems(t, placed(16, one), items(placed(16, one)))
	checkItems(t, placed(16, all), items(placed(16, all)))
	var none []api.Needle
	for _, x := range all {
		none = append(none, gone(r, x.Key))
	}
	checkItems(t, placed(16, append(all, none...)), nil)
	checkItems(t, placed(16, append(none, all...)), items(placed(16, append(none, all...))))
}

// The place in the list counts, not Off, which may be any number.
func TestItemsOfRecordsInAnyPlace(t *testing.T) {
	r := rand.New(rand.NewSource(22))
	offs := []int64{0, 16, -1, 7, math.MinInt64, math.MaxInt64, 16, 1 << 40}
	for range 2000 {
		var l []scan.Record
		for _, x := range mixed(r, r.Intn(8), 20) {
			l = append(l, scan.Record{Off: offs[r.Intn(len(offs))], Needle: x})
		}
		checkItems(t, l, items(l))
	}
	x, y := put(r, 3, 4), put(r, 3, 5)
	checkItems(t, []scan.Record{{Off: 500, Needle: x}, {Off: 100, Needle: y}}, []api.Item{{Key: 3, Cookie: y.Cookie, Off: 100, Size: 5}})
	checkItems(t, []scan.Record{{Off: 500, Needle: x}, {Off: 100, Needle: gone(r, 3)}}, nil)
	checkItems(t, []scan.Record{{Off: 500, Needle: gone(r, 3)}, {Off: 100, Needle: y}}, []api.Item{{Key: 3, Cookie: y.Cookie, Off: 100, Size: 5}})
}

// Needles that are not valid have records of length 0 (6.1), or of the length of their data.
func TestItemsOfNeedlesThatAreNotValid(t *testing.T) {
	r := rand.New(rand.NewSource(23))
	long, odd := put(r, 1, maxPayload+1), put(r, 2, 30)
	odd.Deleted = true
	l := []scan.Record{{Off: 16, Needle: long}, {Off: 24, Needle: odd}, {Off: 32, Needle: put(r, 2, 1)}}
	checkItems(t, l[:1], []api.Item{{Key: 1, Cookie: long.Cookie, Off: 16, Size: maxPayload + 1}})
	checkBytes(t, l[:1], 0, 0)
	checkItems(t, l[:2], []api.Item{{Key: 1, Cookie: long.Cookie, Off: 16, Size: maxPayload + 1}})
	checkBytes(t, l[:2], 0, 56)
	checkItems(t, l, items(l))
	checkBytes(t, l, 32, 56)
	checkItems(t, append(l, l[0], l[1]), items(append(l, l[0], l[1])))
}

func TestBytesAreAllBytes(t *testing.T) {
	r := rand.New(rand.NewSource(24))
	for range 500 {
		l := mixed(r, r.Intn(30), 100)
		live, garbage := scan.Bytes(placed(16, l))
		if live+garbage != int64(len(records(l))) || live < 0 || garbage < 0 {
			t.Errorf("%d live bytes and %d others, of %d", live, garbage, len(records(l)))
		}
	}
}

// Promise 9.3, and 9.4 for damaged records.

func TestSalvageWithoutDamage(t *testing.T) {
	r := rand.New(rand.NewSource(25))
	checkSalvage(t, "no bytes", nil, nil)
	checkSalvage(t, "no bytes", []byte{}, nil)
	checkSalvage(t, "a superblock alone", block(super()), nil)
	for n := range 100 {
		l := mixed(r, n, 60)
		b := volume(records(l))
		checkSalvage(t, "no damage", b, placed(16, l))
		checkOpen(t, "no damage", b, scan.Salvage(b), int64(len(b)))
	}
	for n := range maxPayload + 1 {
		l := []api.Needle{put(r, 1, n), gone(r, 1)}
		checkSalvage(t, "each length", volume(records(l)), placed(16, l))
	}
}

func TestSalvageOfFewBytes(t *testing.T) {
	b := slices.Concat(record(api.Needle{}), record(api.Needle{Key: 1}))
	for n := range 40 {
		checkSalvage(t, "bytes 0", make([]byte, n), nil)
		checkSalvage(t, "records at the beginning", b[:n], nil)
		checkSalvage(t, "a cut record", volume(b[:n%24]), nil)
	}
}

func TestSalvageOfCutFiles(t *testing.T) {
	l := few(rand.New(rand.NewSource(26)))
	whole := volume(records(l))
	for n := range whole {
		want, _ := complete(placed(16, l), n)
		checkSalvage(t, "a cut file", whole[:n], want)
	}
}

func TestSalvageOfChangedRecords(t *testing.T) {
	l := few(rand.New(rand.NewSource(27)))
	whole := volume(records(l))
	for i := range whole[superSize:] {
		i += superSize
		before, _ := complete(placed(16, l), i)
		damaged := len(before)
		want := slices.Concat(before, placed(16, l)[damaged+1:])
		for d := 1; d < 256; d++ {
			checkSalvage(t, "a changed record", changed(whole, i, whole[i]^byte(d)), want)
		}
	}
}

// ruin changes, in one of some ways, a record that stands in the whole of b.
func ruin(r *rand.Rand, b []byte) {
	switch i := r.Intn(len(b)); r.Intn(4) {
	case 0:
		clear(b)
	case 1:
		copy(b[i:], content(r, len(b)-i))
		b[i] = 0
		b[0] = 0
	case 2:
		b[r.Intn(2)]++
	default:
		b[4+r.Intn(12)]++
	}
}

func TestSalvageOfSeveralDamagedRecords(t *testing.T) {
	r := rand.New(rand.NewSource(28))
	l := append(few(r), put(r, 77, 200), gone(r, 77))
	whole, found := volume(records(l)), placed(16, l)
	for set := range 1 << len(l) {
		b := bytes.Clone(whole)
		var want []scan.Record
		for i, x := range found {
			if set>>i&1 == 1 {
				ruin(r, b[x.Off:][:len(record(x.Needle))])
			} else {
				want = append(want, x)
			}
		}
		checkSalvage(t, "damaged records", b, want)
		sound, end := 0, int64(superSize)
		for sound < len(l) && set>>sound&1 == 0 {
			end += int64(len(record(l[sound])))
			sound++
		}
		checkOpen(t, "damaged records", b, found[:sound], end)
	}
}

func TestSalvageOfDamagedLongRecords(t *testing.T) {
	r := rand.New(rand.NewSource(29))
	for damaged := range 4 {
		l := []api.Needle{put(r, 1, maxPayload), put(r, 2, maxPayload-3), put(r, 3, maxPayload), put(r, 4, 0)}
		b, found := volume(records(l)), placed(16, l)
		b[found[damaged].Off+5]++
		checkSalvage(t, "a damaged long record", b, slices.Delete(found, damaged, damaged+1))
	}
}

func TestSalvageWithBytesBetween(t *testing.T) {
	r := rand.New(rand.NewSource(30))
	l := few(r)
	for n := range 50 {
		for _, gap := range [][]byte{make([]byte, n), bytes.Repeat([]byte{255}, n), content(r, n), bytes.Repeat([]byte{78, 165}, n/2+1)[:n]} {
			for k := range len(l) + 1 {
				before, behind := records(l[:k]), records(l[k:])
				want := placed(16, l[:k])
				if n%8 == 0 {
					want = append(want, placed(int64(superSize+len(before)+n), l[k:])...)
				}
				checkSalvage(t, "bytes between", volume(before, gap, behind), want)
			}
		}
	}
}

func TestSalvageWithBytesInTwoPlaces(t *testing.T) {
	r := rand.New(rand.NewSource(31))
	l := few(r)
	for n := range 17 {
		for m := range 17 {
			a, b, c := records(l[:2]), records(l[2:4]), records(l[4:])
			want := placed(16, l[:2])
			if n%8 == 0 {
				want = append(want, placed(int64(superSize+len(a)+n), l[2:4])...)
			}
			if (n+m)%8 == 0 {
				want = append(want, placed(int64(superSize+len(a)+n+len(b)+m), l[4:])...)
			}
			checkSalvage(t, "bytes in two places", volume(a, content(r, n), b, content(r, m), c), want)
		}
	}
}

func TestSalvageOfARecordWithinTheDataOfADamagedOne(t *testing.T) {
	r := rand.New(rand.NewSource(32))
	first, inner, last := put(r, 1, 5), put(r, 2, 11), put(r, 4, 6)
	for n := range 30 {
		data := slices.Concat(content(r, n), record(inner), content(r, 10))
		outer := api.Needle{Key: 3, Data: data}
		l := []api.Needle{first, outer, last}
		b, found := volume(records(l)), placed(16, l)
		checkSalvage(t, "a record within data", b, found)
		checkOpen(t, "a record within data", b, found, int64(len(b)))
		b[found[1].Off]++
		want := []scan.Record{found[0], found[2]}
		if n%8 == 4 {
			want = slices.Insert(want, 1, scan.Record{Off: found[1].Off + 20 + int64(n), Needle: inner})
		}
		checkSalvage(t, "a record within the data of a damaged one", b, want)
		checkOpen(t, "a record within the data of a damaged one", b, found[:1], found[1].Off)
	}
}

func TestSalvageContinuesBehindWhatItFinds(t *testing.T) {
	r := rand.New(rand.NewSource(33))
	next, last := put(r, 4, 30), put(r, 5, 1)
	swallowing := api.Needle{Key: 3, Cookie: 4, Data: slices.Concat(content(r, 4), record(next))}
	// Of the damaged record there is only the first half: the record within its
	// data goes on in the bytes behind it, which contain the next record.
	damaged := slices.Concat([]byte{78, 165, 0, 0}, content(r, 12), []byte{0, 0, 0, 20}, content(r, 4))
	b := volume(damaged, record(swallowing), record(last))
	at := int64(superSize + len(damaged))
	found := []scan.Record{{Off: at, Needle: swallowing}, {Off: at + size(len(swallowing.Data)), Needle: last}}
	checkSalvage(t, "a record that contains the next one", b, found)
	inner := at + 24
	checkSalvage(t, "that record damaged", changed(b, int(at)+9, b[at+9]+1), []scan.Record{{Off: inner, Needle: next}, found[1]})
}

func TestSalvageDoesNotReadTheSuperblock(t *testing.T) {
	r := rand.New(rand.NewSource(34))
	l := few(r)
	whole, found := volume(records(l)), placed(16, l)
	for i := range superSize {
		for d := 1; d < 256; d++ {
			checkSalvage(t, "a damaged superblock", changed(whole, i, whole[i]^byte(d)), found)
		}
	}
	for _, begin := range [][]byte{make([]byte, superSize), bytes.Repeat([]byte{255}, superSize), record(put(r, 1, 40))[:superSize]} {
		checkSalvage(t, "another superblock", slices.Concat(begin, whole[superSize:]), found)
	}
	early := record(gone(r, 1))
	checkSalvage(t, "a record at 0", slices.Concat(early, whole[superSize:]), placed(24, l))
	checkSalvage(t, "a record at 8", slices.Concat(make([]byte, 8), early, whole[superSize:]), placed(32, l))
}

func TestSalvageOfCutSuperblocks(t *testing.T) {
	l := few(rand.New(rand.NewSource(35)))
	whole := volume(records(l))
	for n := range superSize + 1 {
		checkSalvage(t, "the beginning alone", whole[:n], nil)
		var want []scan.Record
		if n%8 == 0 {
			want = placed(int64(superSize-n), l)
		}
		if n == 8 || n == 16 {
			want = want[1:] // it stands before SuperSize
		}
		checkSalvage(t, "without some bytes of the superblock", whole[n:], want)
	}
}

// piece returns a part of a random file: a record, a part of one, a damaged one or other bytes.
func piece(r *rand.Rand) []byte {
	b := record(mixed(r, 1, 30)[0])
	switch r.Intn(9) {
	case 0:
		return b[:r.Intn(len(b))]
	case 1:
		return b[:8*r.Intn(len(b)/8)]
	case 2:
		b[r.Intn(len(b))]++
		return b
	case 3:
		return make([]byte, r.Intn(20))
	case 4:
		return []byte{78, 165, 0, 0, 1, 2, 3, 4}
	case 5:
		return record(api.Needle{Key: 1, Data: slices.Concat(make([]byte, r.Intn(9)), b)})
	case 6:
		return record(api.Needle{Key: 2, Data: slices.Concat(make([]byte, 4), b)})[:28+r.Intn(len(b))]
	}
	return b
}

func TestRandomFiles(t *testing.T) {
	r := rand.New(rand.NewSource(36))
	more := 0
	for range 20000 {
		b := block(super())
		for range r.Intn(8) {
			b = append(b, piece(r)...)
		}
		l, end := follow(b, superSize)
		checkOpen(t, "random parts", b, l, end)
		found := salvage(b)
		checkSalvage(t, "random parts", b, found)
		checkItems(t, found, items(found))
		if len(found) > len(l) {
			more++
		}
	}
	if more < 4000 {
		t.Errorf("only %d files with records behind a damage", more)
	}
}

func TestRandomBytes(t *testing.T) {
	r := rand.New(rand.NewSource(37))
	for n := range 3000 {
		b := make([]byte, n%200)
		r.Read(b)
		s, e := superblock.Decode(b)
		if e != api.OK {
			checkNoOpen(t, "random bytes", b, e)
		} else {
			checkOpenAs(t, "random bytes", b, s, nil, superSize)
		}
		checkSalvage(t, "random bytes", b, salvage(b))
	}
}

// Headers with great lengths everywhere are the longest way through a file.
func TestSalvageOfAFileFullOfHeaders(t *testing.T) {
	header := []byte{78, 165, 0, 0, 0, 0, 0, 0, 78, 165, 0, 0, 0, 0, 0, 0, 0, 0, 16, 0, 0, 0, 0, 0, 0, 0, 16, 0, 0, 0, 0, 0}
	b := bytes.Repeat(header, 4096)
	last := put(rand.New(rand.NewSource(38)), 1, 10)
	checkSalvage(t, "headers", volume(b), nil)
	checkSalvage(t, "headers before a record", volume(b, record(last)), placed(int64(superSize+len(b)), []api.Needle{last}))
	checkOpen(t, "headers", volume(b), nil, superSize)
}

// Rules R3 and R4, and rule 7 of LANGUAGE.md.

// roomy returns a copy of b with room behind it, and all its memory.
func roomy(b []byte) (part, memory []byte) {
	memory = append(bytes.Clone(b), bytes.Repeat([]byte{1, 2, 3}, 20)...)
	return memory[:len(b)], memory
}

// spoil changes all bytes of b, and those behind it that an append reaches.
func spoil(b []byte) {
	b = b[:cap(b)]
	for i := range b {
		b[i] ^= 255
	}
}

// copied returns a copy of l that shares no memory with it.
func copied(l []scan.Record) []scan.Record {
	l = slices.Clone(l)
	for i := range l {
		l[i].Needle.Data = bytes.Clone(l[i].Needle.Data)
	}
	return l
}

// checkOwnMemory checks that a reading call leaves its argument, and that neither it nor any Data of the result shares memory with another.
func checkOwnMemory(t *testing.T, what string, b []byte, read func([]byte) []scan.Record) {
	t.Helper()
	part, memory := roomy(b)
	before := bytes.Clone(memory)
	l, other := read(part), read(part)
	want := copied(l)
	if !bytes.Equal(memory, before) {
		t.Errorf("%s changes its argument", what)
	}
	spoil(memory)
	if !same(l, want) {
		t.Errorf("%s: the result changes with the argument", what)
	}
	spoil(memory)
	for i := range l {
		spoil(l[i].Needle.Data)
		if !same(l[i+1:], want[i+1:]) || !same(other, want) || !bytes.Equal(memory, before) {
			t.Errorf("%s: the data of record %d share memory", what, i)
		}
	}
	clear(l[:cap(l)])
	if !same(other, want) {
		t.Errorf("%s: results of two calls share memory", what)
	}
}

func TestRecordsHaveMemoryOfTheirOwn(t *testing.T) {
	r := rand.New(rand.NewSource(39))
	open := func(b []byte) []scan.Record {
		_, l, _, _ := scan.Open(b)
		return l
	}
	whole := volume(records(append(few(r), put(r, 1, maxPayload), put(r, 2, 50))))
	bad := changed(whole, 100, whole[100]+1)
	for _, b := range [][]byte{nil, whole[:10], whole[:16], whole, whole[:200], bad, changed(whole, 3, 0), changed(whole, 9, 77)} {
		checkOwnMemory(t, "Open", b, open)
		checkOwnMemory(t, "Salvage", b, scan.Salvage)
	}
}

func TestItemsAndBytesLeaveTheirArgument(t *testing.T) {
	r := rand.New(rand.NewSource(40))
	for n := range 50 {
		memory := placed(16, mixed(r, n+3, 30))
		before := copied(memory)
		l := memory[: n : n+1]
		first, second := scan.Items(l), scan.Items(l)
		scan.Bytes(l)
		if !same(memory, before) {
			t.Errorf("an argument of %d records is changed", n)
		}
		clear(first[:cap(first)])
		clear(l)
		if want := items(before[:n]); !slices.Equal(second, want) {
			t.Errorf("Items of %d records changed: %v, want %v", n, second, want)
		}
	}
}

func TestCallsLeaveNoTrace(t *testing.T) {
	r := rand.New(rand.NewSource(41))
	l := few(r)
	whole, found := volume(records(l)), placed(16, l)
	bad := changed(whole, 60, whole[60]+1)
	for range 3 {
		checkOpen(t, "once more", whole, found, int64(len(whole)))
		checkNoOpen(t, "once more", whole[1:], api.ErrForm)
		checkNoOpen(t, "once more", whole[:7], api.ErrShort)
		checkOpen(t, "once more", bad, found[:1], 48)
		checkSalvage(t, "once more", bad, slices.Delete(slices.Clone(found), 1, 2))
		checkSalvage(t, "once more", whole, found)
		checkItems(t, found, items(found))
		checkItems(t, found[:2], nil)
		checkItems(t, nil, nil)
	}
}
