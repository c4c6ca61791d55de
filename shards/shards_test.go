package shards_test

import (
	"bytes"
	"encoding/binary"
	"math"
	"math/rand"
	"slices"
	"testing"

	"needlestore/api"
	"needlestore/shards"
)

// The chapter's examples.

func TestExamples(t *testing.T) {
	l, _, e := shards.Make(make([]byte, 16), api.Super{Gen: 1}, nil)
	if e != api.OK || !slices.Equal(lengths(l), []int{64, 64, 64, 64, 64, 64}) {
		t.Errorf("Make of a superblock alone: %d bytes, error %d", lengths(l), e)
	}
	checkRebuild(t, "without files", some(), nil, nil, nil, api.ErrArg)
	checkRebuild(t, "six empty files", some(), make([][]byte, 6), nil, nil, api.ErrUnavailable)
}

func TestFixedIsTheLengthOfAnEmptyIndex(t *testing.T) {
	const n int = shards.Fixed
	if b, e := shards.Encode(smallest()); e != api.OK || len(b) != n || n != fixed {
		t.Errorf("%d bytes, Fixed is %d, error %d", len(b), n, e)
	}
}

// Promise 17.1.

func TestValidHeads(t *testing.T) {
	for _, h := range goodHeads(rand.New(rand.NewSource(1))) {
		checkValid(t, "a head", h, true)
	}
}

func TestInvalidHeads(t *testing.T) {
	for _, c := range badHeads(t) {
		checkValid(t, c.what, c.h, false)
		if b, e := shards.Encode(c.h); e != api.ErrArg || len(b) != 0 {
			t.Errorf("%s: Encode(%v) = %x, error %d, want ErrArg", c.what, short(c.h), brief(b), e)
		}
	}
	checkValid(t, "no head", head{}, false)
}

func TestSuperblocksNearTheBounds(t *testing.T) {
	for slot := -3; slot <= 7; slot++ {
		for gen := -3; gen <= 12; gen++ {
			for _, rev := range []int64{-2, -1, 0, 1, 65535, 65536, 1<<31 - 1, 1 << 31, maxRev - 1, maxRev, maxRev + 1, maxRev + 2} {
				h := some()
				h.Super = api.Super{Slot: slot, Gen: gen, Rev: rev}
				checkValid(t, "a superblock", h, slot >= 0 && slot <= 3 && gen >= 1 && gen <= 8 && rev >= 0 && rev <= maxRev)
			}
		}
	}
}

// Len may be any number between its bounds, and not only a multiple of 8.
func TestEachLen(t *testing.T) {
	for n := int64(-300); n <= most+3000; n++ {
		checkValid(t, "Len", head{Super: api.Super{Gen: 1}, Len: n}, n >= least && n <= most)
	}
}

// The records may end exactly where the dat file ends. Any of three items may be
// the last one in the file.
func TestLastRecordOfEachSize(t *testing.T) {
	for size := range maxSize + 1 {
		for i := range 3 {
			h := head{Super: api.Super{Gen: 8}, Items: []api.Item{{Key: 1, Off: 16}, {Key: 2, Off: 40}, {Key: 3, Off: 64}}}
			h.Items[i] = api.Item{Key: h.Items[i].Key, Off: 88, Size: size}
			end := 88 + record(size)
			for _, n := range []int64{end - 9, end - 8, end - 1, end, end + 1, end + 8} {
				h.Len = n
				checkValid(t, "the last record", h, n >= end)
			}
		}
	}
}

func TestRecordsUpToTheGreatestLen(t *testing.T) {
	for size := range maxSize + 1 {
		off := most - record(size)
		h := head{Super: api.Super{Gen: 1}, Len: most, Items: []api.Item{{Off: off, Size: size}}}
		checkValid(t, "up to the end", h, true)
		h.Items[0].Off += 8
		checkValid(t, "beyond the end", h, false)
	}
}

// 17.1 names no condition on records beside each other.
func TestRecordsMayOverlap(t *testing.T) {
	h := some()
	h.Items = nil
	for key := range uint64(200) {
		h.Items = append(h.Items, api.Item{Key: key, Off: 16 + 8*int64(key%5), Size: int(key)})
	}
	checkFile(t, "records that overlap", h, file(h))
}

// Nor does it name one on the checksums.
func TestAnyChecksums(t *testing.T) {
	for i := range number {
		for bit := range 32 {
			for _, s := range []uint32{1 << bit, ^uint32(1 << bit), 1<<bit - 1} {
				h := some()
				h.Sums[i] = s
				checkFile(t, "a checksum", h, file(h))
			}
		}
	}
}

// Each file is written out.
func TestIndexFilesByHand(t *testing.T) {
	checkFile(t, "the smallest head", smallest(), []byte{
		'N', 'I', 'D', 'X', 0, 0, 0, 1, 0, 0, 0, 0,
		0, 0, 0, 0, 0, 0, 0, 16,
		0, 0, 0, 0, 0, 0, 0, 0, 0, 0, 0, 0, 0, 0, 0, 0, 0, 0, 0, 0, 0, 0, 0, 0,
		0, 0, 0, 0,
		0x4b, 0x87, 0x14, 0xc5,
	})
	checkFile(t, "two items", some(), []byte{
		'N', 'I', 'D', 'X', 0, 1, 0, 2, 0, 0, 0, 3,
		0, 0, 0, 0, 0, 0, 2, 88,
		1, 2, 3, 4, 0x11, 0x12, 0x13, 0x14, 0x21, 0x22, 0x23, 0x24, 0x31, 0x32, 0x33, 0x34, 0x41, 0x42, 0x43, 0x44, 0x51, 0x52, 0x53, 0x54,
		0, 0, 0, 2,
		0, 0, 0, 0, 0, 0, 0, 4, 0, 0, 0, 5, 0, 0, 0, 16, 0, 0, 0, 30, 0x4a, 0xba, 0x78, 0x66,
		0, 0, 0, 0, 0, 0, 0, 9, 0, 0, 0, 6, 0, 0, 2, 64, 0, 0, 0, 0, 0xbd, 0x09, 0xe9, 0xd0,
		0xbd, 0x08, 0x09, 0xfa,
	})
	checkFile(t, "the greatest head", greatest(), []byte{
		'N', 'I', 'D', 'X', 0, 3, 0, 8, 255, 255, 255, 255,
		0, 0, 0, 0, 0, 8, 0, 0,
		255, 255, 255, 255, 255, 255, 255, 255, 255, 255, 255, 255, 255, 255, 255, 255, 255, 255, 255, 255, 255, 255, 255, 255,
		0, 0, 0, 1,
		255, 255, 255, 255, 255, 255, 255, 255, 255, 255, 255, 255, 0, 7, 0xef, 0xe8, 0, 0, 16, 0, 0x76, 0x8e, 0x44, 0x42,
		0x5a, 0x4f, 0x86, 0xb6,
	})
}

func TestIndexFiles(t *testing.T) {
	r := rand.New(rand.NewSource(2))
	for _, h := range goodHeads(r) {
		checkFile(t, "a head", h, file(h))
	}
	for slot := range 4 {
		for gen := 1; gen <= 8; gen++ {
			h := anyHead(r, 3)
			h.Super.Slot, h.Super.Gen = slot, gen
			checkFile(t, "a generation", h, file(h))
		}
	}
	for bit := range 32 {
		for _, n := range []int64{1 << bit, 1<<bit - 1, maxRev - 1<<bit} {
			h := some()
			h.Super.Rev = n
			checkFile(t, "a revision", h, file(h))
		}
	}
	for bit := 4; bit <= 19; bit++ {
		for _, n := range []int64{1 << bit, 1<<bit + 1, 1<<bit + 1<<(bit-1)} {
			h := head{Super: anySuper(r), Len: min(n, most), Sums: anySums(r)}
			checkFile(t, "a length", h, file(h))
		}
	}
}

// The number of items needs more than one byte, and more than two.
func TestManyItems(t *testing.T) {
	for _, n := range []int{255, 256, 257, 4000, 65535, 65536, 70001} {
		h := head{Super: api.Super{Gen: 1}, Len: most}
		for i := range n {
			h.Items = append(h.Items, api.Item{Key: uint64(i), Cookie: 7, Off: 16 + 8*int64(i%65000), Size: i % 50})
		}
		checkFile(t, "many items", h, file(h))
	}
}

// Promise 17.2.

// At each cut the checksum fits or does not.
func TestDecodeOfEachCut(t *testing.T) {
	for _, h := range []head{smallest(), some(), greatest(), full(5)} {
		b := file(h)
		for k := range b {
			checkDecode(t, "cut", b[:k], head{}, api.ErrShort)
			checkLikeChapter(t, "cut, with a checksum", closed(b[:k]))
		}
	}
	checkDecode(t, "no bytes", nil, head{}, api.ErrShort)
}

func TestDecodeOfBytesBehind(t *testing.T) {
	for _, h := range []head{smallest(), some(), greatest(), full(5)} {
		b := file(h)
		for n := 1; n <= 80; n++ {
			checkDecode(t, "bytes behind", append(bytes.Clone(b), b[:n%len(b)+1]...), head{}, api.ErrForm)
			checkDecode(t, "bytes behind, with a checksum", closed(append(bytes.Clone(b), make([]byte, n)...)), head{}, api.ErrForm)
		}
	}
}

// The first four bytes matter as soon as there are Fixed bytes, whatever else is wrong.
func TestDecodeOfAnotherMark(t *testing.T) {
	for _, h := range []head{smallest(), some()} {
		b := file(h)
		for _, mark := range []string{"NIDx", "nidx", "XDIN", "NVOL", "NIDY", "NID\x00", "\x00NID", "IDXN", "MIDX", "NJDX", "NIEX"} {
			other := append([]byte(mark), b[4:]...)
			for k := range other {
				want := api.ErrForm
				if k < fixed {
					want = api.ErrShort
				}
				checkDecode(t, "another mark, cut", other[:k], head{}, want)
			}
			checkDecode(t, "another mark", other, head{}, api.ErrForm)
			checkDecode(t, "another mark, with a checksum", mended(other), head{}, api.ErrForm)
			checkDecode(t, "another mark and bytes behind", append(other, 0), head{}, api.ErrForm)
		}
	}
}

// with returns bytes with another byte at i.
func with(b []byte, i int, x byte) []byte {
	b = bytes.Clone(b)
	b[i] = x
	return b
}

func TestDecodeOfEveryOtherByte(t *testing.T) {
	for _, h := range []head{smallest(), some(), greatest()} {
		b := file(h)
		got := map[api.Errno]int{}
		for i := range b {
			for x := range 256 {
				if byte(x) == b[i] {
					continue
				}
				other := with(b, i, byte(x))
				if e := checkLikeChapter(t, "another byte", other); e == api.OK {
					t.Errorf("byte %d of %x: not noticed", i, other)
				}
				got[checkLikeChapter(t, "another byte, with a checksum", mended(other))]++
			}
		}
		if got[api.OK] == 0 || got[api.ErrForm] == 0 || got[api.ErrShort] == 0 || len(h.Items) > 0 && got[api.ErrCheck] == 0 {
			t.Errorf("errors %v", got)
		}
	}
}

// put returns an index file with a number of n bytes at a place, and a checksum that fits.
func put(b []byte, at, n int, v uint64) []byte {
	b = bytes.Clone(b)
	for i := range n {
		b[at+i] = byte(v >> (8 * (n - 1 - i)))
	}
	return mended(b)
}

func TestDecodeOfEachSlotAndGen(t *testing.T) {
	b := file(some())
	for n := range uint64(65536) {
		slot := changed(some(), func(h *head) { h.Super.Slot = int(n) })
		gen := changed(some(), func(h *head) { h.Super.Gen = int(n) })
		if n > 3 {
			checkDecode(t, "Slot", put(b, 4, 2, n), head{}, api.ErrForm)
		} else {
			checkDecode(t, "Slot", put(b, 4, 2, n), slot, api.OK)
		}
		if n < 1 || n > 8 {
			checkDecode(t, "Gen", put(b, 6, 2, n), head{}, api.ErrForm)
		} else {
			checkDecode(t, "Gen", put(b, 6, 2, n), gen, api.OK)
		}
	}
}

// With records that end at 600, the lengths before it are not valid.
func TestDecodeOfLens(t *testing.T) {
	lens := []uint64{0, 15, 16, 17, 599, 600, 601, most - 1, most, most + 1, 1 << 32, 1<<32 + 600, 1 << 48, 1<<63 - 1, 1 << 63, 1<<63 + 600, math.MaxUint64, math.MaxUint64 - 599}
	for bit := range 64 {
		lens = append(lens, 1<<bit, 1<<bit-1, 1<<bit+600)
	}
	for _, h := range []head{some(), smallest()} {
		for _, n := range lens {
			want, e := changed(h, func(h *head) { h.Len = int64(n) }), api.OK
			if n < least || n > most || len(h.Items) > 0 && n < 600 {
				want, e = head{}, api.ErrForm
			}
			checkDecode(t, "Len", put(file(h), 12, 8, n), want, e)
		}
	}
}

// Among the numbers of items are those whose entries would have as many bytes as
// there are, if they were counted with 32 bits.
func TestDecodeOfEachNumberOfItems(t *testing.T) {
	for n := range 4 {
		b := file(full(n))
		counts := []uint64{1 << 16, 1<<16 + 1, 1 << 24, 1<<31 - 1, 1 << 31, 1<<31 + uint64(n), 1<<32 - 1}
		for k := range uint64(1000) {
			counts = append(counts, k)
		}
		for k := uint64(1); k < 8; k++ {
			counts = append(counts, k<<29, k<<29+uint64(n), k<<29-1, k<<29+uint64(n)+1)
		}
		for _, k := range counts {
			want, e := head{}, api.ErrShort
			if k < uint64(n) {
				e = api.ErrForm
			} else if k == uint64(n) {
				want, e = full(n), api.OK
			}
			checkDecode(t, "a number of items", put(b, 44, 4, k), want, e)
			if k != uint64(n) {
				checkDecode(t, "a number of items, without a checksum", append(put(b, 44, 4, k)[:len(b)-4], 1, 2, 3, 4), want, e)
			}
		}
	}
}

// An index file may have numbers that no head has: those that fit in their bytes are tried.
func TestDecodeOfInvalidHeads(t *testing.T) {
	tried := 0
	for _, c := range badHeads(t) {
		if h := c.h; int(uint16(h.Super.Slot)) != h.Super.Slot || int(uint16(h.Super.Gen)) != h.Super.Gen || int64(uint32(h.Super.Rev)) != h.Super.Rev {
			continue
		}
		if slices.ContainsFunc(c.h.Items, func(x api.Item) bool { return int64(uint32(x.Off)) != x.Off || int(uint32(x.Size)) != x.Size }) {
			continue
		}
		checkDecode(t, c.what, file(c.h), head{}, api.ErrForm)
		tried++
	}
	if tried < 1000 {
		t.Errorf("%d heads", tried)
	}
}

// mistake is something that may be wrong with an index file.
type mistake struct {
	what string
	head func(h *head)
	file func(b []byte) []byte
}

// mistakes returns mistakes of a head with three items, in the order in which they are made.
func mistakes() []mistake {
	at := func(i int, x byte) func(b []byte) []byte {
		return func(b []byte) []byte { return with(b, i, b[i]^x) }
	}
	return []mistake{
		{what: "Gen", head: func(h *head) { h.Super.Gen = 9 }},
		{what: "an item behind the end", head: func(h *head) { h.Len = 80 }},
		{what: "keys", head: func(h *head) { h.Items[1].Key = h.Items[0].Key }},
		{what: "Off", head: func(h *head) { h.Items[2].Off = 17 }},
		{what: "the first entry", file: at(48+5, 1)},
		{what: "the checksum of the last entry", file: at(48+71, 128)},
		{what: "more items", file: at(47, 4)},
		{what: "fewer items", file: at(47, 1)},
		{what: "the mark", file: at(3, 32)},
		{what: "a mended checksum", file: mended},
		{what: "the checksum", file: func(b []byte) []byte { return with(b, len(b)-1, b[len(b)-1]^64) }},
		{what: "a byte behind", file: func(b []byte) []byte { return append(b, 0) }},
		{what: "a cut", file: func(b []byte) []byte { return b[:len(b)-3] }},
		{what: "a deep cut", file: func(b []byte) []byte { return b[:fixed-1] }},
	}
}

func TestSetsOfMistakes(t *testing.T) {
	l := mistakes()
	got := map[api.Errno]int{}
	for set := range 1 << len(l) {
		h, what := full(3), ""
		var changes []func(b []byte) []byte
		for i, m := range l {
			if set>>i&1 == 0 {
				continue
			}
			what += m.what + ", "
			if m.head != nil {
				m.head(&h)
			} else {
				changes = append(changes, m.file)
			}
		}
		b := file(h)
		for _, change := range changes {
			b = change(b)
		}
		got[checkLikeChapter(t, what, b)]++
	}
	if len(got) != 4 {
		t.Errorf("errors %v", got)
	}
}

// The error of an entry is that of package index: of the first one that is wrong,
// before anything is said about the list or the head.
func TestWrongEntries(t *testing.T) {
	for _, h := range []head{full(4), changed(full(4), func(h *head) { h.Items[3].Key = 0 }), changed(full(4), func(h *head) { h.Super.Slot = 4 })} {
		b := file(h)
		for set := 1; set < 16; set++ {
			other := bytes.Clone(b)
			for i := range 4 {
				if set>>i&1 == 1 {
					other[48+24*i+i*5]++
				}
			}
			checkDecode(t, "wrong entries", mended(other), head{}, api.ErrCheck)
		}
	}
}

func TestDecodeOfAnyBytes(t *testing.T) {
	r := rand.New(rand.NewSource(3))
	for n := range 400 {
		b := anyBytes(r, n)
		checkLikeChapter(t, "any bytes", b)
		checkLikeChapter(t, "zeros", make([]byte, n))
		checkLikeChapter(t, "any bytes with a mark", closed(append([]byte("NIDX"), b...)))
		if n >= fixed {
			copy(b, "NIDX")
			binary.BigEndian.PutUint32(b[44:], uint32((n-fixed)/entry))
			checkLikeChapter(t, "any bytes with a number of items", mended(b))
		}
	}
}

// Promise 17.3.

func TestMakeByHand(t *testing.T) {
	dat := []byte{'N', 'V', 'O', 'L', 0, 0, 0, 1, 0, 0, 0, 0, 0xe9, 0xd8, 0x6e, 0xba}
	l, h := checkMake(t, "a superblock", dat, api.Super{Gen: 1}, nil)
	if h.Len != 16 || h.Super != (api.Super{Gen: 1}) || h.Sums != [6]uint32{0x6b668aca, 0x03c8eb67, 0x03c8eb67, 0x03c8eb67, 0xcc6a4455, 0xfc8365ed} {
		t.Errorf("%v", h)
	}
	for i, begin := range [][]byte{
		dat, make([]byte, 16), make([]byte, 16), make([]byte, 16),
		{0x0c, 0x79, 0x17, 0x3a, 0, 0, 0, 0x1b, 0, 0, 0, 0, 0x0b, 0xfa, 0x4b, 0x05},
		{0xfb, 0xc6, 0xe7, 0xc3, 0, 0, 0, 0x1c, 0, 0, 0, 0, 0xae, 0xc8, 0x5c, 0x04},
	} {
		if want := append(bytes.Clone(begin), make([]byte, 48)...); !bytes.Equal(l[i], want) {
			t.Errorf("shard %d: %x, want %x", i, l[i], want)
		}
	}
	dat = nil
	for i := range 258 {
		dat = append(dat, byte(i+i/256))
	}
	l, h = checkMake(t, "258 bytes", dat, api.Super{Gen: 1}, nil)
	if h.Len != 258 || len(l[0]) != 128 || h.Sums != [6]uint32{0xa763f54a, 0xd82c4033, 0xd18cf833, 0xd6ec9033, 0x02513804, 0x6812349a} {
		t.Errorf("%v", h)
	}
}

// What the bytes of the dat file are does not matter, not even those of its superblock.
func TestMakeOfEachLength(t *testing.T) {
	r := rand.New(rand.NewSource(4))
	for n := range 1100 {
		checkMake(t, "any bytes", anyBytes(r, n), anySuper(r), nil)
		checkMake(t, "any bytes and items", anyBytes(r, n), anySuper(r), anyItems(r, 5, int64(n)))
	}
	checkMake(t, "no bytes", nil, api.Super{Gen: 1}, nil)
	for _, n := range []int{4096, 65535, 65536, 65537, 100001} {
		checkMake(t, "more bytes", anyBytes(r, n), anySuper(r), anyItems(r, 50, int64(n)))
	}
}

func TestMakeOfTheGreatestLengths(t *testing.T) {
	r := rand.New(rand.NewSource(5))
	for _, n := range []int{most - 256, most - 1, most, most + 1, most + 8, most + 256, 1 << 20, 1<<20 + 1} {
		l, h := checkMake(t, "many bytes", anyBytes(r, n), anySuper(r), anyItems(r, 300, min(int64(n), most)))
		if n <= most && (len(l) != number || h.Len != int64(n)) || n > most && len(l) != 0 {
			t.Errorf("%d bytes: %d shards, Len %d", n, len(l), h.Len)
		}
	}
}

func TestMakeOfInvalidHeads(t *testing.T) {
	for _, c := range badHeads(t) {
		if c.h.Len >= 0 && c.h.Len <= 1<<21 {
			checkMake(t, c.what, make([]byte, c.h.Len), c.h.Super, c.h.Items)
		}
	}
}

func TestMakeOfHeads(t *testing.T) {
	r := rand.New(rand.NewSource(6))
	for _, h := range goodHeads(r) {
		l, made := checkMake(t, "a head", anyBytes(r, int(h.Len)), h.Super, h.Items)
		checkFile(t, "what Make returns", made, file(made))
		for i, b := range l {
			checkGood(t, "what Make returns", made, i, b, true)
		}
	}
}
