package shards_test

import (
	"bytes"
	"encoding/binary"
	"hash/crc32"
	"math"
	"math/rand"
	"slices"
	"testing"

	"needlestore/api"
	"needlestore/rs"
	"needlestore/shards"
)

type head = shards.Head

// The numbers are written out, so that changed constants are noticed.
const (
	fixed   = 52
	entry   = 24
	least   = 16     // bytes of the shortest dat file
	most    = 524288 // bytes of the longest one
	block   = 64
	row     = 256 // bytes of a block of each data shard
	number  = 6   // of the shards
	enough  = 4   // shards from which all are rebuilt
	maxSize = 4096
	maxRev  = 4294967295
	maxKey  = math.MaxUint64
	maxSum  = math.MaxUint32
)

func sum(b []byte) uint32 { return crc32.Checksum(b, crc32.MakeTable(crc32.Castagnoli)) }

// closed returns b with its checksum behind it.
func closed(b []byte) []byte { return binary.LittleEndian.AppendUint32(bytes.Clone(b), sum(b)) }

// mended returns an index file with a checksum at its end that fits.
func mended(b []byte) []byte { return closed(b[:len(b)-4]) }

// record is the length of a record with n bytes of data, as 6.1 says.
func record(n int) int64 {
	length := int64(20 + n + 4)
	for length%8 != 0 {
		length++
	}
	return length
}

func goodItem(x api.Item) bool {
	return x.Off >= 16 && x.Off <= 1048576 && x.Off%8 == 0 && x.Size >= 0 && x.Size <= maxSize
}

// valid is 17.1 word for word.
func valid(h head) bool {
	s := h.Super
	if s.Slot < 0 || s.Slot > 3 || s.Gen < 1 || s.Gen > 8 || s.Rev < 0 || s.Rev > maxRev {
		return false
	}
	if h.Len < least || h.Len > most {
		return false
	}
	for i, x := range h.Items {
		if !goodItem(x) || i > 0 && h.Items[i-1].Key >= x.Key || x.Off+record(x.Size) > h.Len {
			return false
		}
	}
	return true
}

// file is the index file of 17.1 word for word. It writes heads that are not
// valid too, as far as their numbers have room.
func file(h head) []byte {
	b := []byte("NIDX")
	b = binary.BigEndian.AppendUint16(b, uint16(h.Super.Slot))
	b = binary.BigEndian.AppendUint16(b, uint16(h.Super.Gen))
	b = binary.BigEndian.AppendUint32(b, uint32(h.Super.Rev))
	b = binary.BigEndian.AppendUint64(b, uint64(h.Len))
	for _, s := range h.Sums {
		b = binary.BigEndian.AppendUint32(b, s)
	}
	b = binary.BigEndian.AppendUint32(b, uint32(len(h.Items)))
	for _, x := range h.Items {
		e := binary.BigEndian.AppendUint64(nil, x.Key)
		e = binary.BigEndian.AppendUint32(e, x.Cookie)
		e = binary.BigEndian.AppendUint32(e, uint32(x.Off))
		b = append(b, closed(binary.BigEndian.AppendUint32(e, uint32(x.Size)))...)
	}
	return closed(b)
}

// decoded is 17.2 word for word.
func decoded(b []byte) (head, api.Errno) {
	if len(b) < fixed {
		return head{}, api.ErrShort
	}
	if string(b[:4]) != "NIDX" {
		return head{}, api.ErrForm
	}
	want := fixed + entry*int64(binary.BigEndian.Uint32(b[44:]))
	if int64(len(b)) < want {
		return head{}, api.ErrShort
	}
	if int64(len(b)) > want {
		return head{}, api.ErrForm
	}
	if binary.LittleEndian.Uint32(b[want-4:]) != sum(b[:want-4]) {
		return head{}, api.ErrCheck
	}
	h := head{
		Super: api.Super{Slot: int(binary.BigEndian.Uint16(b[4:])), Gen: int(binary.BigEndian.Uint16(b[6:])), Rev: int64(binary.BigEndian.Uint32(b[8:]))},
		Len:   int64(binary.BigEndian.Uint64(b[12:])),
	}
	for i := range h.Sums {
		h.Sums[i] = binary.BigEndian.Uint32(b[20+4*i:])
	}
	for e := b[48 : want-4]; len(e) > 0; e = e[entry:] {
		if binary.LittleEndian.Uint32(e[20:]) != sum(e[:20]) {
			return head{}, api.ErrCheck
		}
		h.Items = append(h.Items, api.Item{
			Key:    binary.BigEndian.Uint64(e),
			Cookie: binary.BigEndian.Uint32(e[8:]),
			Off:    int64(binary.BigEndian.Uint32(e[12:])),
			Size:   int(binary.BigEndian.Uint32(e[16:])),
		})
	}
	if !valid(h) {
		return head{}, api.ErrForm
	}
	return h, api.OK
}

// width is the length of a shard for a dat file of n bytes, as 5.1 says.
func width(n int64) int64 {
	var size int64
	for ; size*4 < n; size += block {
	}
	return size
}

// times is the product in the field, as 2.1 says.
func times(a, b byte) byte {
	product := 0
	for k := range 8 {
		if b>>k&1 == 1 {
			product ^= int(a) << k
		}
	}
	for k := 14; k >= 8; k-- {
		if product>>k&1 == 1 {
			product ^= 0x11d << (k - 8)
		}
	}
	return byte(product)
}

// parity has the factors of the data shards in shards 4 and 5, as 4.1 gives them.
var parity = [2][4]byte{{27, 28, 18, 20}, {28, 27, 20, 18}}

// dealt is 17.3's six shards of a dat file, made byte by byte.
func dealt(dat []byte) [][]byte {
	l := make([][]byte, number)
	for i := range l {
		l[i] = make([]byte, width(int64(len(dat))))
	}
	for off, x := range dat {
		k, at := off/block%4, off/row*block+off%block
		l[k][at] = x
		for i, factors := range parity {
			l[4+i][at] ^= times(x, factors[k])
		}
	}
	return l
}

// sealed is the Make of 17.3 word for word.
func sealed(dat []byte, s api.Super, items []api.Item) ([][]byte, head, api.Errno) {
	h := head{Super: s, Len: int64(len(dat)), Items: items}
	if !valid(h) {
		return nil, head{}, api.ErrArg
	}
	l := dealt(dat)
	h.Sums = sums(l)
	return l, h, api.OK
}

// sums returns the checksums of six shards.
func sums(l [][]byte) [number]uint32 {
	var s [number]uint32
	for i, b := range l {
		s[i] = sum(b)
	}
	return s
}

// good is the Good of 17.4 word for word.
func good(h head, i int, shard []byte) bool {
	return i >= 0 && i < number && valid(h) && int64(len(shard)) == width(h.Len) && sum(shard) == h.Sums[i]
}

// rebuilt is the Rebuild of 17.4 word for word.
func rebuilt(h head, files [][]byte) ([][]byte, []int, api.Errno) {
	if !valid(h) || len(files) != number {
		return nil, nil, api.ErrArg
	}
	have, found := make([]bool, number), 0
	var bad []int
	for i, b := range files {
		if good(h, i, b) {
			have[i] = true
			found++
		} else {
			bad = append(bad, i)
		}
	}
	if found < enough {
		return nil, nil, api.ErrUnavailable
	}
	l, _ := rs.Restore(files, have)
	if sums(l) != h.Sums {
		return nil, nil, api.ErrCheck
	}
	return l, bad, api.OK
}

// anyBytes returns n random bytes.
func anyBytes(r *rand.Rand, n int) []byte {
	b := make([]byte, n)
	r.Read(b)
	return b
}

func anySuper(r *rand.Rand) api.Super {
	return api.Super{Slot: r.Intn(4), Gen: 1 + r.Intn(8), Rev: r.Int63n(maxRev + 1)}
}

// anyItems returns a valid list of up to n items, whose records end at most at
// length. They may overlap.
func anyItems(r *rand.Rand, n int, length int64) []api.Item {
	var l []api.Item
	for range n {
		size := r.Intn(maxSize + 1)
		if r.Intn(2) == 0 {
			size = r.Intn(60)
		}
		if room := length - 16 - record(size); room >= 0 {
			l = append(l, api.Item{Key: r.Uint64() >> r.Intn(64), Cookie: r.Uint32(), Off: 16 + 8*r.Int63n(room/8+1), Size: size})
		}
	}
	slices.SortFunc(l, func(x, y api.Item) int {
		if x.Key < y.Key {
			return -1
		}
		return 1
	})
	return slices.CompactFunc(l, func(x, y api.Item) bool { return x.Key == y.Key })
}

func anySums(r *rand.Rand) [number]uint32 {
	var s [number]uint32
	for i := range s {
		s[i] = r.Uint32()
	}
	return s
}

// anyHead returns a valid head with up to n items.
func anyHead(r *rand.Rand, n int) head {
	length := least + r.Int63n(most-least+1)
	if r.Intn(2) == 0 {
		length = least + r.Int63n(1000)
	}
	return head{Super: anySuper(r), Len: length, Sums: anySums(r), Items: anyItems(r, n, length)}
}

// some returns the head of the chapter's tests: two items, the second of which ends where the dat file ends.
func some() head {
	return head{
		Super: api.Super{Slot: 1, Gen: 2, Rev: 3}, Len: 600, Sums: [number]uint32{0x01020304, 0x11121314, 0x21222324, 0x31323334, 0x41424344, 0x51525354},
		Items: []api.Item{{Key: 4, Cookie: 5, Off: 16, Size: 30}, {Key: 9, Cookie: 6, Off: 576}},
	}
}

// greatest returns a head whose numbers are all as great as they can be.
func greatest() head {
	return head{
		Super: api.Super{Slot: 3, Gen: 8, Rev: maxRev}, Len: most, Sums: [number]uint32{maxSum, maxSum, maxSum, maxSum, maxSum, maxSum},
		Items: []api.Item{{Key: maxKey, Cookie: maxSum, Off: most - 4120, Size: maxSize}},
	}
}

// smallest returns a head whose numbers are all as small as they can be.
func smallest() head { return head{Super: api.Super{Gen: 1}, Len: least} }

// full returns a head with n items whose records fill the dat file.
func full(n int) head {
	h := head{Super: api.Super{Slot: 2, Gen: 5, Rev: 7}, Len: 16}
	for i := range n {
		h.Items = append(h.Items, api.Item{Key: uint64(i * i), Cookie: uint32(i), Off: h.Len, Size: i % 50})
		h.Len += record(i % 50)
	}
	return h
}

// goodHeads returns valid heads.
func goodHeads(r *rand.Rand) []head {
	l := []head{some(), greatest(), smallest(), full(1), full(2), full(3), full(300)}
	for n := range 60 {
		l = append(l, anyHead(r, n%20))
	}
	return l
}

// named is a head and what is special about it.
type named struct {
	what string
	h    head
}

// changed returns a head of its own with a change.
func changed(h head, f func(h *head)) head {
	h.Items = slices.Clone(h.Items)
	f(&h)
	return h
}

// farNumbers returns numbers that are valid nowhere.
func farNumbers() []int64 {
	return []int64{
		-1, -2, -8, -16, -255, -256, -65536, math.MinInt32, -1 << 32, -1<<32 + 16, math.MinInt64, math.MinInt64 + 1, math.MinInt64 + 16,
		1 << 32, 1<<32 + 1, 1<<32 + 2, 1<<32 + 16, 1<<32 + 600, 1 << 48, 1 << 62, 1<<62 + 600, math.MaxInt64 - 7, math.MaxInt64,
	}
}

// badSupers returns heads of which only one number of the superblock is not valid.
func badSupers() []named {
	var l []named
	for _, h := range []head{some(), greatest(), smallest()} {
		for _, n := range append(farNumbers(), 4, 5, 8, 255, 256, 257, 65535, 65536, 65537) {
			l = append(l, named{"Slot", changed(h, func(h *head) { h.Super.Slot = int(n) })})
		}
		for _, n := range append(farNumbers(), 0, 9, 10, 16, 255, 256, 257, 65535, 65536, 65537) {
			l = append(l, named{"Gen", changed(h, func(h *head) { h.Super.Gen = int(n) })})
		}
		for _, n := range farNumbers() {
			l = append(l, named{"Rev", changed(h, func(h *head) { h.Super.Rev = n })})
		}
	}
	return l
}

// badLens returns heads of which only Len is not valid.
func badLens() []named {
	var l []named
	for _, n := range append(farNumbers(), 0, 1, 7, 8, 14, 15, most+1, most+7, most+8, most+256, 1<<20-1, 1<<20, 1<<20+1, 1<<21, 1<<31) {
		l = append(l, named{"Len", head{Super: api.Super{Gen: 1}, Len: n}})
	}
	for _, n := range []int64{most + 1, most + 8, 1 << 20, 1 << 32, 1<<32 + most, 1 << 62} {
		l = append(l, named{"Len", changed(greatest(), func(h *head) { h.Len = n })})
	}
	return l
}

// badItems returns items that no list may have, which end at most at 600 all the same.
func badItems() []api.Item {
	var l []api.Item
	for _, off := range []int64{-1, -8, -16, 0, 1, 7, 8, 12, 15, 17, 18, 20, 22, 23, 100, 127, 129, 575, math.MinInt32, -1 << 32, math.MinInt64, math.MinInt64 + 16} {
		l = append(l, api.Item{Off: off}, api.Item{Cookie: 9, Off: off, Size: 1})
	}
	for _, size := range []int{-1, -2, -20, -24, -1000, maxSize + 1, maxSize + 2, 1 << 16, math.MinInt32, 1 << 32, -1 << 32, math.MaxInt64, math.MaxInt64 - 24, math.MinInt64} {
		l = append(l, api.Item{Off: 16, Size: size}, api.Item{Cookie: 9, Off: 320, Size: size})
	}
	return l
}

// badLists returns heads of which only the list of the items is not valid.
func badLists() []named {
	var l []named
	three := changed(some(), func(h *head) {
		h.Items = []api.Item{{Key: 4, Off: 16, Size: 30}, {Key: 6, Off: 80, Size: 7}, {Key: 9, Off: 112, Size: 400}}
	})
	for i := range three.Items {
		for _, x := range badItems() {
			x.Key = three.Items[i].Key
			l = append(l, named{"an item", changed(three, func(h *head) { h.Items[i] = x })})
		}
	}
	for _, keys := range [][3]uint64{{4, 4, 9}, {4, 9, 9}, {4, 9, 6}, {6, 4, 9}, {9, 6, 4}, {9, 4, 6}, {6, 9, 4}, {4, 4, 4}, {0, maxKey, 0}, {maxKey, 0, 1}, {1 << 63, 1<<63 - 1, maxKey}} {
		l = append(l, named{"keys", changed(three, func(h *head) {
			for i, key := range keys {
				h.Items[i].Key = key
			}
		})})
	}
	return l
}

// badEnds returns heads with an item, all else being valid, whose record ends behind Len.
func badEnds() []named {
	var l []named
	add := func(h head) { l = append(l, named{"the end of an item", h}) }
	for n := int64(least); n < 600; n++ {
		add(changed(some(), func(h *head) { h.Len = n }))
	}
	for i := range some().Items {
		for _, off := range []int64{584, 592, 600, 608, 1024, most - 24, most - 16, most - 8, most, most + 8, 1048568, 1048576} {
			add(changed(some(), func(h *head) { h.Items[i].Off, h.Items[i].Size = off, 0 }))
		}
		for n := range maxSize + 1 {
			add(changed(some(), func(h *head) { h.Items[i].Off, h.Items[i].Size = max(16, 608-record(n)), n }))
		}
	}
	for _, off := range []int64{most - 4112, most - 4096, most - 24, most, 1048576} {
		add(changed(greatest(), func(h *head) { h.Items[0].Off = off }))
	}
	return l
}

// badHeads returns heads each of which is not valid for one reason.
func badHeads(t *testing.T) []named {
	t.Helper()
	l := slices.Concat(badSupers(), badLens(), badLists(), badEnds())
	for _, c := range l {
		if valid(c.h) {
			t.Fatalf("%s: %v is valid", c.what, c.h)
		}
	}
	return l
}

// zeros returns six shards of bytes 0 of a head's size, as rs accepts them, and
// the head with their checksums.
func zeros(h head) ([][]byte, head) {
	l := make([][]byte, number)
	for i := range l {
		l[i] = make([]byte, width(h.Len))
	}
	h.Sums = sums(l)
	return l, h
}

func same(a, b head) bool {
	return a.Super == b.Super && a.Len == b.Len && a.Sums == b.Sums && slices.Equal(a.Items, b.Items)
}

func sameShards(a, b [][]byte) bool { return slices.EqualFunc(a, b, bytes.Equal) }

// copied returns a head with memory of its own.
func copied(h head) head { return changed(h, func(*head) {}) }

// copiedShards returns shards with memory of their own.
func copiedShards(l [][]byte) [][]byte {
	c := slices.Clone(l)
	for i, b := range l {
		c[i] = bytes.Clone(b)
	}
	return c
}

// brief returns the beginning of a list, for messages.
func brief[T any](l []T) []T { return l[:min(len(l), 120)] }

// short returns a head with the first few items, for messages.
func short(h head) head {
	h.Items = h.Items[:min(len(h.Items), 5)]
	return h
}

// lengths returns the lengths of shards, for messages.
func lengths(l [][]byte) []int {
	var n []int
	for _, b := range l {
		n = append(n, len(b))
	}
	return n
}

func checkValid(t *testing.T, what string, h head, want bool) {
	t.Helper()
	if v := shards.Valid(h); v != want {
		t.Errorf("%s: Valid(%v) = %v", what, short(h), v)
	}
}

// checkFile checks that a head has an index file with these bytes, and that they have this head.
func checkFile(t *testing.T, what string, h head, want []byte) {
	t.Helper()
	if b, e := shards.Encode(h); e != api.OK || !bytes.Equal(b, want) {
		t.Errorf("%s: Encode(%v) = %x, error %d, want %x", what, short(h), brief(b), e, brief(want))
	}
	checkDecode(t, what, want, h, api.OK)
}

func checkDecode(t *testing.T, what string, b []byte, want head, wantE api.Errno) {
	t.Helper()
	if h, e := shards.Decode(b); e != wantE || !same(h, want) {
		t.Errorf("%s: Decode(%x) = %v, error %d, want %v, error %d", what, brief(b), short(h), e, short(want), wantE)
	}
}

// checkLikeChapter compares Decode with 17.2, and what it accepts with what
// Encode writes. It returns the error.
func checkLikeChapter(t *testing.T, what string, b []byte) api.Errno {
	t.Helper()
	h, e := decoded(b)
	checkDecode(t, what, b, h, e)
	if e == api.OK {
		checkFile(t, what, h, b)
	}
	return e
}

// checkMake compares Make with 17.3. It returns the shards and the head.
func checkMake(t *testing.T, what string, dat []byte, s api.Super, items []api.Item) ([][]byte, head) {
	t.Helper()
	wantL, want, wantE := sealed(dat, s, items)
	l, h, e := shards.Make(dat, s, items)
	if e != wantE || !same(h, want) || !sameShards(l, wantL) {
		t.Errorf("%s: Make of %d bytes, %v, %v: %d bytes, %v, error %d, want %d bytes, %v, error %d",
			what, len(dat), s, brief(items), lengths(l), short(h), e, lengths(wantL), short(want), wantE)
	}
	return l, h
}

func checkGood(t *testing.T, what string, h head, i int, shard []byte, want bool) {
	t.Helper()
	if g := shards.Good(h, i, shard); g != want {
		t.Errorf("%s: Good(%v, %d, %d bytes %x) = %v", what, short(h), i, len(shard), brief(shard), g)
	}
}

func checkRebuild(t *testing.T, what string, h head, files, want [][]byte, wantBad []int, wantE api.Errno) {
	t.Helper()
	l, bad, e := shards.Rebuild(h, files)
	if e != wantE || !sameShards(l, want) || !slices.Equal(bad, wantBad) {
		t.Errorf("%s: Rebuild(%v, %d bytes): %d bytes, %v, error %d, want %d bytes, %v, error %d",
			what, short(h), lengths(files), lengths(l), bad, e, lengths(want), wantBad, wantE)
	}
}

// checkRebuildLikeChapter compares Rebuild with 17.4. It returns the error.
func checkRebuildLikeChapter(t *testing.T, what string, h head, files [][]byte) api.Errno {
	t.Helper()
	want, bad, e := rebuilt(h, files)
	checkRebuild(t, what, h, files, want, bad, e)
	return e
}
