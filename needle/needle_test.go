package needle_test

import (
	"bytes"
	"encoding/binary"
	"hash/crc32"
	"math"
	"math/rand"
	"testing"

	"needlestore/api"
	"needlestore/needle"
)

// The numbers are written out, so that changed constants are noticed.
const (
	header     = 20
	maxPayload = 4096
)

// record is 6.1 word for word. It writes needles that are not valid too.
func record(x api.Needle) []byte {
	return closed(opened(x, len(x.Data)))
}

// opened is the part of the record of x before the checksum, with any length of Data.
func opened(x api.Needle, length int) []byte {
	b := []byte{78, 165, 0, 0}
	if x.Deleted {
		b[2] = 1
	}
	b = binary.BigEndian.AppendUint32(b, x.Cookie)
	b = binary.BigEndian.AppendUint64(b, x.Key)
	b = binary.BigEndian.AppendUint32(b, uint32(length))
	return append(b, x.Data...)
}

// closed returns b with its checksum and the bytes 0 behind it.
func closed(b []byte) []byte {
	b = binary.LittleEndian.AppendUint32(bytes.Clone(b), sum(b))
	for len(b)%8 != 0 {
		b = append(b, 0)
	}
	return b
}

func sum(b []byte) uint32 { return crc32.Checksum(b, crc32.MakeTable(crc32.Castagnoli)) }

// decode is 6.3 word for word.
func decode(b []byte) (api.Needle, int, api.Errno) {
	if len(b) < header {
		return api.Needle{}, 0, api.ErrShort
	}
	n := int64(binary.BigEndian.Uint32(b[16:]))
	if b[0] != 78 || b[1] != 165 || b[2] != 0 && b[2] != 1 || b[3] != 0 || n > maxPayload || b[2] == 1 && n != 0 {
		return api.Needle{}, 0, api.ErrForm
	}
	end := header + int(n)
	size := len(closed(make([]byte, end)))
	if len(b) < size {
		return api.Needle{}, 0, api.ErrShort
	}
	if binary.LittleEndian.Uint32(b[end:]) != sum(b[:end]) {
		return api.Needle{}, 0, api.ErrCheck
	}
	for _, x := range b[end+4 : size] {
		if x != 0 {
			return api.Needle{}, 0, api.ErrForm
		}
	}
	x := api.Needle{Key: binary.BigEndian.Uint64(b[8:]), Cookie: binary.BigEndian.Uint32(b[4:]), Deleted: b[2] == 1, Data: b[header:end]}
	return x, size, api.OK
}

// content returns n bytes. None of them is 0, so none is like those behind the checksum.
func content(r *rand.Rand, n int) []byte {
	b := make([]byte, n)
	for i := range b {
		b[i] = byte(1 + r.Intn(255))
	}
	return b
}

// needles returns valid needles, all different: keys and cookies that fill all
// their bytes and others, lengths of all remainders by 8 up to the greatest one.
func needles(r *rand.Rand) []api.Needle {
	l := []api.Needle{
		{}, {Deleted: true}, {Key: 1}, {Cookie: 1}, {Key: 1, Deleted: true}, {Cookie: 1, Deleted: true},
		{Key: math.MaxUint64, Cookie: math.MaxUint32}, {Key: math.MaxUint64, Cookie: math.MaxUint32, Deleted: true},
		{Key: 1 << 63, Cookie: 1 << 31}, {Key: 0x0102030405060708, Cookie: 0xa1b2c3d4}, {Data: []byte{0}}, {Data: make([]byte, 8)},
		{Key: 2, Data: make([]byte, maxPayload)}, {Key: 3, Data: bytes.Repeat([]byte{255}, maxPayload)},
	}
	for n := range 70 {
		l = append(l, api.Needle{Key: r.Uint64(), Cookie: r.Uint32(), Data: content(r, n)})
	}
	for bit := range 12 {
		for d := -9; d <= 9; d++ {
			if n := 1<<(bit+1) + d; n >= 0 && n <= maxPayload {
				l = append(l, api.Needle{Key: r.Uint64() >> (5 * bit), Cookie: r.Uint32() >> bit, Data: content(r, n)})
			}
		}
	}
	for bit := 1; bit < 64; bit++ {
		l = append(l, api.Needle{Key: 1 << bit, Cookie: 1 << (bit % 32), Data: content(r, bit)})
		l = append(l, api.Needle{Key: 1<<bit - 1, Cookie: 1<<(bit%32) - 1, Deleted: true})
	}
	for range 100 {
		l = append(l, api.Needle{Key: r.Uint64(), Cookie: r.Uint32(), Deleted: true})
	}
	return l
}

func same(a, b api.Needle) bool {
	return a.Key == b.Key && a.Cookie == b.Cookie && a.Deleted == b.Deleted && bytes.Equal(a.Data, b.Data)
}

func clone(x api.Needle) api.Needle {
	x.Data = bytes.Clone(x.Data)
	return x
}

// changed returns b with another byte at i.
func changed(b []byte, i int, x byte) []byte {
	b = bytes.Clone(b)
	b[i] = x
	return b
}

func encode(t *testing.T, x api.Needle) []byte {
	t.Helper()
	b, e := needle.Encode(x)
	if e != api.OK {
		t.Fatalf("Encode of key %d with %d bytes: error %d", x.Key, len(x.Data), e)
	}
	return b
}

func checkSize(t *testing.T, n, want int) {
	t.Helper()
	if s := needle.Size(n); s != want {
		t.Errorf("Size(%d) = %d, want %d", n, s, want)
	}
}

func checkValid(t *testing.T, x api.Needle, want bool) {
	t.Helper()
	if v := needle.Valid(x); v != want {
		t.Errorf("Valid of %d bytes, deleted %v: %v, want %v", len(x.Data), x.Deleted, v, want)
	}
}

func checkEncode(t *testing.T, x api.Needle, want []byte) {
	t.Helper()
	if b, e := needle.Encode(x); e != api.OK || !bytes.Equal(b, want) {
		t.Errorf("Encode(%v) = %v, error %d, want %v", x, b, e, want)
	}
}

func checkNoEncode(t *testing.T, x api.Needle, want api.Errno) {
	t.Helper()
	if b, e := needle.Encode(x); e != want || len(b) != 0 {
		t.Errorf("Encode of %d bytes, deleted %v: %d bytes, error %d, want error %d", len(x.Data), x.Deleted, len(b), e, want)
	}
}

func checkDecode(t *testing.T, b []byte, want api.Needle, size int) {
	t.Helper()
	if x, n, e := needle.Decode(b); e != api.OK || n != size || !same(x, want) {
		t.Errorf("Decode(%v) = %v, %d, error %d, want %v, %d", b, x, n, e, want, size)
	}
}

func checkNoDecode(t *testing.T, what string, b []byte, want api.Errno) {
	t.Helper()
	if x, n, e := needle.Decode(b); e != want || n != 0 || x.Key != 0 || x.Cookie != 0 || x.Deleted || len(x.Data) != 0 {
		t.Errorf("%s: Decode(%v) = %v, %d, error %d, want error %d", what, b, x, n, e, want)
	}
}

// checkLikeChapter compares Decode with 6.3, and what it accepts with what Encode writes.
func checkLikeChapter(t *testing.T, what string, b []byte) api.Errno {
	t.Helper()
	x, n, e := decode(b)
	if e != api.OK {
		checkNoDecode(t, what, b, e)
		return e
	}
	checkDecode(t, b, x, n)
	checkEncode(t, x, b[:n])
	return api.OK
}

// The chapter's examples.

func TestExamples(t *testing.T) {
	checkSize(t, 0, 24)
	checkSize(t, 1, 32)
	checkSize(t, 8, 32)
	checkSize(t, 9, 40)
	checkNoDecode(t, "20 bytes 0", make([]byte, 20), api.ErrForm)
	if b := encode(t, api.Needle{Deleted: true}); !bytes.Equal(b[:4], []byte{78, 165, 1, 0}) {
		t.Errorf("a tombstone: %v", b)
	}
}

// Promise 6.1.

func TestHeader(t *testing.T) {
	const h int = needle.Header
	if h != header {
		t.Errorf("%d", h)
	}
}

func TestSizeOfAllLengths(t *testing.T) {
	want := 24
	for n := range maxPayload + 1 {
		for want < 24+n {
			want += 8
		}
		checkSize(t, n, want)
	}
	checkSize(t, maxPayload, 4120)
	checkSize(t, maxPayload-1, 4120)
	checkSize(t, maxPayload-7, 4120)
	checkSize(t, maxPayload-8, 4112)
}

func TestSizeOfOtherNumbers(t *testing.T) {
	for n := range 5000 {
		checkSize(t, -1-n, 0)
		checkSize(t, maxPayload+1+n, 0)
		checkSize(t, math.MinInt+n, 0)
		checkSize(t, math.MaxInt-n, 0)
		checkSize(t, math.MaxInt32-2500+n, 0)
		checkSize(t, math.MinInt32+2500-n, 0)
	}
	for bit := 13; bit < 31; bit++ {
		checkSize(t, 1<<bit, 0)
		checkSize(t, -1<<bit, 0)
	}
}

func TestValid(t *testing.T) {
	for _, data := range [][]byte{nil, {}} {
		checkValid(t, api.Needle{Data: data}, true)
		checkValid(t, api.Needle{Data: data, Deleted: true}, true)
		checkValid(t, api.Needle{Key: math.MaxUint64, Cookie: math.MaxUint32, Data: data, Deleted: true}, true)
	}
	data := make([]byte, 3*maxPayload)
	for n := 1; n <= len(data); n++ {
		checkValid(t, api.Needle{Key: 7, Cookie: 8, Data: data[:n]}, n <= maxPayload)
		checkValid(t, api.Needle{Key: 7, Cookie: 8, Data: data[:n], Deleted: true}, false)
	}
}

func TestNumbersDoNotMakeInvalid(t *testing.T) {
	for _, x := range needles(rand.New(rand.NewSource(1))) {
		checkValid(t, x, true)
	}
}

func TestSizeIsTheLengthOfTheRecord(t *testing.T) {
	r := rand.New(rand.NewSource(2))
	for n := range maxPayload + 1 {
		checkSize(t, n, len(encode(t, api.Needle{Key: r.Uint64(), Data: make([]byte, n)})))
	}
	checkSize(t, 0, len(encode(t, api.Needle{Deleted: true})))
}

// Promise 6.2.

func TestEncodeByteByByte(t *testing.T) {
	for _, c := range []struct {
		x    api.Needle
		want []byte
	}{
		{api.Needle{}, []byte{
			78, 165, 0, 0, 0, 0, 0, 0, 0, 0, 0, 0, 0, 0, 0, 0, 0, 0, 0, 0, 0x87, 0xc2, 0x1a, 0xee}},
		{api.Needle{Key: 0x0102030405060708, Cookie: 0xa1b2c3d4, Deleted: true}, []byte{
			78, 165, 1, 0, 0xa1, 0xb2, 0xc3, 0xd4, 1, 2, 3, 4, 5, 6, 7, 8, 0, 0, 0, 0, 0x90, 0x6a, 0xbb, 0xfb}},
		{api.Needle{Key: math.MaxUint64, Cookie: math.MaxUint32, Data: []byte{9}}, []byte{
			78, 165, 0, 0, 255, 255, 255, 255, 255, 255, 255, 255, 255, 255, 255, 255, 0, 0, 0, 1, 9, 0xea, 0xc4, 0x13, 0x4d, 0, 0, 0, 0, 0, 0, 0}},
		{api.Needle{Key: 1 << 56, Cookie: 2 << 24, Data: []byte("needles!")}, []byte{
			78, 165, 0, 0, 2, 0, 0, 0, 1, 0, 0, 0, 0, 0, 0, 0, 0, 0, 0, 8, 'n', 'e', 'e', 'd', 'l', 'e', 's', '!', 0xd3, 0x85, 0xda, 0x4c}},
	} {
		checkEncode(t, c.x, c.want)
		checkDecode(t, c.want, c.x, len(c.want))
	}
}

func TestEncode(t *testing.T) {
	for _, x := range needles(rand.New(rand.NewSource(3))) {
		checkEncode(t, x, record(x))
	}
}

// A length of 4096 fills byte 18 only, one of 4095 both bytes.
func TestEncodeLengths(t *testing.T) {
	for n, want := range map[int][]byte{
		0: {0, 0, 0, 0}, 1: {0, 0, 0, 1}, 255: {0, 0, 0, 255}, 256: {0, 0, 1, 0}, 0x0203: {0, 0, 2, 3}, 4095: {0, 0, 15, 255}, 4096: {0, 0, 16, 0},
	} {
		if b := encode(t, api.Needle{Data: make([]byte, n)}); !bytes.Equal(b[16:20], want) {
			t.Errorf("%d bytes: length %v, want %v", n, b[16:20], want)
		}
	}
}

func TestEncodeOfEmptyAndNilData(t *testing.T) {
	for _, deleted := range []bool{false, true} {
		x := api.Needle{Key: 5, Cookie: 6, Deleted: deleted}
		want := record(x)
		checkEncode(t, x, want)
		x.Data = []byte{}
		checkEncode(t, x, want)
	}
}

func TestEncodeErrors(t *testing.T) {
	data := content(rand.New(rand.NewSource(4)), 1<<20)
	for _, n := range []int{1, 2, 7, 8, 9, 1000, maxPayload - 1, maxPayload} {
		checkNoEncode(t, api.Needle{Key: 1, Cookie: 2, Data: data[:n], Deleted: true}, api.ErrArg)
		checkEncode(t, api.Needle{Key: 1, Cookie: 2, Data: data[:n]}, record(api.Needle{Key: 1, Cookie: 2, Data: data[:n]}))
	}
	for _, n := range []int{maxPayload + 1, maxPayload + 2, maxPayload + 8, 2 * maxPayload, 1 << 16, 1<<16 + 1, 1 << 20} {
		checkNoEncode(t, api.Needle{Key: 1, Cookie: 2, Data: data[:n]}, api.ErrTooLarge)
		checkNoEncode(t, api.Needle{Key: 1, Cookie: 2, Data: data[:n], Deleted: true}, api.ErrTooLarge)
	}
}

func TestEncodeHasAnErrorWhereValidHasNone(t *testing.T) {
	data := make([]byte, maxPayload+20)
	for n := range data {
		for _, deleted := range []bool{false, true} {
			x := api.Needle{Data: data[:n], Deleted: deleted}
			if _, e := needle.Encode(x); needle.Valid(x) != (e == api.OK) {
				t.Errorf("%d bytes, deleted %v: Valid %v, error %d", n, deleted, needle.Valid(x), e)
			}
		}
	}
}

// Promise 6.3.

func TestDecode(t *testing.T) {
	for _, x := range needles(rand.New(rand.NewSource(5))) {
		b := record(x)
		checkDecode(t, b, x, len(b))
	}
}

func TestDecodeLeavesTheBytesBehind(t *testing.T) {
	r := rand.New(rand.NewSource(6))
	l := needles(r)
	for i, x := range l {
		b := record(x)
		next := record(l[(i+1)%len(l)])
		for _, more := range [][]byte{{0}, {1}, {1, 2, 3}, make([]byte, 24), content(r, 100), b, next} {
			checkDecode(t, append(bytes.Clone(b), more...), x, len(b))
		}
	}
}

func TestDecodeOfCutRecords(t *testing.T) {
	for _, x := range needles(rand.New(rand.NewSource(7))) {
		b := record(x)
		for k := range len(b) {
			checkNoDecode(t, "a cut record", b[:k], api.ErrShort)
		}
	}
	checkNoDecode(t, "nil", nil, api.ErrShort)
	checkNoDecode(t, "no bytes", []byte{}, api.ErrShort)
}

// The checksum of the changed bytes fits, so it is not what finds the change.
func TestDecodeOfOtherFirstBytes(t *testing.T) {
	r := rand.New(rand.NewSource(8))
	for _, x := range []api.Needle{{}, {Deleted: true}, {Key: 7, Cookie: 8, Data: content(r, 8)}, {Key: 9, Data: content(r, 13)}} {
		b := opened(x, len(x.Data))
		for i := range 4 {
			for v := range 256 {
				other := changed(b, i, byte(v))
				what := "another first byte"
				switch {
				case other[i] == b[i]:
					checkDecode(t, closed(other), x, needle.Size(len(x.Data)))
				case i == 2 && v <= 1 && len(x.Data) == 0:
					checkDecode(t, closed(other), api.Needle{Key: x.Key, Cookie: x.Cookie, Deleted: !x.Deleted}, 24)
					checkNoDecode(t, what, changed(record(x), i, byte(v)), api.ErrCheck)
				default:
					checkNoDecode(t, what, closed(other), api.ErrForm)
					checkNoDecode(t, what, changed(record(x), i, byte(v)), api.ErrForm)
					checkNoDecode(t, what, other[:header], api.ErrForm)
				}
			}
		}
	}
}

// All bytes that the length announces are there, and the checksum fits.
func TestDecodeOfTooGreatLengths(t *testing.T) {
	r := rand.New(rand.NewSource(9))
	for _, n := range []int{maxPayload + 1, maxPayload + 2, maxPayload + 8, 2 * maxPayload, 1 << 16, 1<<16 + 1, 1 << 20} {
		b := record(api.Needle{Key: 1, Data: content(r, n)})
		checkNoDecode(t, "a great length", b, api.ErrForm)
		checkNoDecode(t, "a great length, cut", b[:header], api.ErrForm)
		checkNoDecode(t, "a great length, cut", b[:len(b)-1], api.ErrForm)
	}
}

func TestDecodeOfVeryGreatLengths(t *testing.T) {
	lengths := []uint32{math.MaxUint32, math.MaxInt32, math.MaxInt32 + 1, 1 << 24, 0xff000000, 0x01000001, 0x80000001, 0x80001000}
	for n := range uint32(64) {
		lengths = append(lengths, math.MaxUint32-n, math.MaxInt32-32+n, maxPayload+1+n)
	}
	for bit := 13; bit < 32; bit++ {
		lengths = append(lengths, 1<<bit, 1<<bit+5)
	}
	data := content(rand.New(rand.NewSource(10)), 5000)
	for _, n := range lengths {
		for _, have := range []int{0, 1, 4, 5, 12, 5000} {
			b := binary.BigEndian.AppendUint32(opened(api.Needle{Key: 1}, 0)[:16], n)
			b = append(b, data[:have]...)
			checkNoDecode(t, "a very great length", b, api.ErrForm)
			checkNoDecode(t, "a very great length", closed(b), api.ErrForm)
		}
	}
}

func TestDecodeOfTombstonesWithData(t *testing.T) {
	r := rand.New(rand.NewSource(11))
	for _, n := range []int{1, 2, 4, 7, 8, 9, 255, 256, 1000, maxPayload - 1, maxPayload, maxPayload + 1} {
		b := record(api.Needle{Key: 3, Deleted: true, Data: content(r, n)})
		checkNoDecode(t, "a tombstone with data", b, api.ErrForm)
		checkNoDecode(t, "a tombstone with data, cut", b[:header], api.ErrForm)
		checkNoDecode(t, "a tombstone with data, cut", b[:len(b)-1], api.ErrForm)
		checkNoDecode(t, "a tombstone with data, cut", b[:header-1], api.ErrShort)
	}
}

func TestDecodeOfOtherChecksums(t *testing.T) {
	r := rand.New(rand.NewSource(12))
	for n := range 24 {
		b := record(api.Needle{Key: r.Uint64(), Cookie: r.Uint32(), Data: content(r, n)})
		for i := header + n; i < header+n+4; i++ {
			for v := range 255 {
				checkNoDecode(t, "another checksum", changed(b, i, b[i]+1+byte(v)), api.ErrCheck)
			}
		}
		reversed := bytes.Clone(b)
		s := reversed[header+n:][:4]
		s[0], s[1], s[2], s[3] = s[3], s[2], s[1], s[0]
		checkNoDecode(t, "a reversed checksum", reversed, api.ErrCheck)
	}
}

func TestDecodeOfOtherBytesBehindTheChecksum(t *testing.T) {
	r := rand.New(rand.NewSource(13))
	for n := range 24 {
		x := api.Needle{Key: r.Uint64(), Cookie: r.Uint32(), Data: content(r, n)}
		b := record(x)
		for i := header + n + 4; i < len(b); i++ {
			for v := 1; v < 256; v++ {
				other := changed(b, i, byte(v))
				checkNoDecode(t, "another byte behind the checksum", other, api.ErrForm)
				checkNoDecode(t, "another byte behind the checksum", append(other, 0, 1), api.ErrForm)
				checkNoDecode(t, "another byte behind a wrong checksum", changed(other, header+n, b[header+n]^1), api.ErrCheck)
				checkNoDecode(t, "another byte behind the checksum, cut", other[:len(b)-1], api.ErrShort)
			}
		}
		for i := range 8 {
			more := append(bytes.Clone(b), make([]byte, 8)...)
			more[len(b)+i] = 255
			checkDecode(t, more, x, len(b))
		}
	}
}

// Every set of mistakes: the first one in the order of 6.3 is the error.
func TestDecodeOfSeveralMistakes(t *testing.T) {
	r := rand.New(rand.NewSource(14))
	forms := []func(b []byte){
		func(b []byte) { b[0] = 0 },
		func(b []byte) { b[1] = 0 },
		func(b []byte) { b[2] = 2 },
		func(b []byte) { b[2] = 1 }, // a tombstone with data
		func(b []byte) { b[3] = 1 },
		func(b []byte) { b[18] = 16 }, // more data than there may be
	}
	for mistakes := range 32 {
		for _, n := range []int{1, 3, 5, 7, 9, 100, 301} {
			for _, form := range forms {
				b := record(api.Needle{Key: r.Uint64(), Cookie: r.Uint32(), Data: content(r, n)})
				want := api.OK
				if mistakes&1 != 0 {
					b[len(b)-1], want = 1, api.ErrForm
				}
				if mistakes&2 != 0 {
					b[header+n] ^= 1
					want = api.ErrCheck
				}
				if mistakes&4 != 0 {
					b, want = b[:header+r.Intn(len(b)-header)], api.ErrShort
				}
				if mistakes&8 != 0 {
					form(b)
					want = api.ErrForm
				}
				if mistakes&16 != 0 {
					b, want = b[:r.Intn(header)], api.ErrShort
				}
				if e := checkLikeChapter(t, "several mistakes", b); e != want {
					t.Errorf("mistakes %b: error %d, want %d", mistakes, e, want)
				}
			}
		}
	}
}

// Many of these bytes are records, and many others have only one mistake.
func TestDecodeOfRandomBytes(t *testing.T) {
	r := rand.New(rand.NewSource(15))
	seen := map[api.Errno]int{}
	for range 100000 {
		b := opened(api.Needle{Key: r.Uint64(), Cookie: r.Uint32(), Deleted: r.Intn(4) == 0, Data: content(r, r.Intn(30))}, r.Intn(30))
		if r.Intn(4) > 0 {
			binary.BigEndian.PutUint32(b[16:], uint32(len(b)-header))
		}
		if r.Intn(8) == 0 {
			b[r.Intn(4)] = byte(r.Intn(3))
		}
		b = closed(b)
		if r.Intn(4) == 0 {
			b[r.Intn(len(b))] ^= 1 << r.Intn(8)
		}
		if r.Intn(4) == 0 {
			b = b[:r.Intn(len(b))]
		}
		seen[checkLikeChapter(t, "random bytes", b)]++
	}
	for _, e := range []api.Errno{api.OK, api.ErrShort, api.ErrForm, api.ErrCheck} {
		if seen[e] < 1000 {
			t.Errorf("error %d only %d times", e, seen[e])
		}
	}
}

// Promise 6.4.

func TestDecodeRestoresWhatEncodeWrites(t *testing.T) {
	for _, x := range needles(rand.New(rand.NewSource(16))) {
		b := encode(t, x)
		checkDecode(t, b, x, len(b))
	}
}

// What Decode accepts is what Encode writes: no other bytes are a record of the needle.
func TestExactlyOneRecord(t *testing.T) {
	r := rand.New(rand.NewSource(17))
	for n := range 20 {
		for _, x := range []api.Needle{{Key: r.Uint64(), Cookie: r.Uint32(), Data: content(r, n)}, {Key: uint64(n), Deleted: true}} {
			open := opened(x, len(x.Data))
			b := record(x)
			for i := range b {
				for v := range 256 {
					checkLikeChapter(t, "a changed byte", append(changed(b, i, byte(v)), b...))
					if i < len(open) {
						checkLikeChapter(t, "a changed byte with its checksum", closed(changed(open, i, byte(v))))
					}
				}
			}
		}
	}
}

func TestDecodeAcceptsOnlyWhatEncodeWrites(t *testing.T) {
	r := rand.New(rand.NewSource(18))
	accepted := 0
	for range 50000 {
		b := make([]byte, header, 64)
		copy(b, []byte{78, 165, byte(r.Intn(2)), 0})
		for i := 4; i < 16; i++ {
			b[i] = byte(r.Uint32())
		}
		b[19] = byte(r.Intn(16))
		b = closed(append(b, content(r, int(b[19]))...))
		b[len(b)-1] *= byte(r.Intn(2))
		x, n, e := needle.Decode(b)
		if e != api.OK {
			continue
		}
		accepted++
		if !needle.Valid(x) || n != needle.Size(len(x.Data)) {
			t.Errorf("Decode(%v) = %v, %d", b, x, n)
		}
		checkEncode(t, x, b[:n])
	}
	if accepted < 10000 {
		t.Errorf("only %d accepted", accepted)
	}
}

func TestNoRecordIsTheBeginningOfAnother(t *testing.T) {
	r := rand.New(rand.NewSource(19))
	l := needles(r)
	for n := range 10 {
		// The data of these are the whole record before them, or the end of it.
		x := api.Needle{Key: 1, Cookie: 9, Data: content(r, n)}
		b := record(x)
		l = append(l, x, api.Needle{Key: 1, Cookie: 9, Data: b}, api.Needle{Key: 1, Cookie: 9, Data: b[header:]})
	}
	records := make([][]byte, len(l))
	for i, x := range l {
		records[i] = encode(t, x)
	}
	for i, a := range records {
		for k, b := range records {
			if i != k && bytes.HasPrefix(a, b) {
				t.Errorf("%v begins with the record of %v", l[i], l[k])
			}
		}
	}
}

func TestRecordsOneAfterTheOther(t *testing.T) {
	l := needles(rand.New(rand.NewSource(20)))
	var b []byte
	for _, x := range l {
		b = append(b, encode(t, x)...)
	}
	for _, want := range l {
		x, n, e := needle.Decode(b)
		if e != api.OK || n < 24 || n%8 != 0 || !same(x, want) {
			t.Fatalf("%v, %d, error %d, want %v", x, n, e, want)
		}
		b = b[n:]
	}
	if len(b) != 0 {
		t.Errorf("%d bytes are left", len(b))
	}
}

// outsideLength reports whether a bit is outside the length of Data. Bits are counted
// as in 1.4, in each byte from the least significant one: counted from the other
// end, 32 consecutive bits may span 40, and 6.4 would not hold for all of them.
func outsideLength(bit int) bool { return bit < 8*16 || bit >= 8*20 }

// checkBurst changes the first and the last bit of a range, and those between
// them that inner names, but for the length of Data.
func checkBurst(t *testing.T, b []byte, from, length int, inner uint32) {
	t.Helper()
	other := bytes.Clone(b)
	for i := range length {
		if bit := from + i; outsideLength(bit) && (i == 0 || i == length-1 || inner>>i&1 == 1) {
			other[bit/8] ^= 1 << (bit % 8)
		}
	}
	if bytes.Equal(other, b) {
		return
	}
	for _, more := range [][]byte{nil, b} {
		x, n, e := needle.Decode(append(other, more...))
		if e == api.OK || n != 0 || !same(x, api.Needle{}) {
			t.Errorf("%d bytes: %d bits from %d on, pattern %#x: %v, %d, error %d", len(b), length, from, inner, x, n, e)
		}
	}
}

func TestEveryShortBurstIsNoticed(t *testing.T) {
	r := rand.New(rand.NewSource(21))
	l := []api.Needle{{}, {Key: r.Uint64(), Cookie: r.Uint32(), Deleted: true}}
	for n := range 13 {
		l = append(l, api.Needle{Key: r.Uint64(), Cookie: r.Uint32(), Data: content(r, n)})
	}
	for _, x := range l {
		b := encode(t, x)
		for from := range 8 * len(b) {
			for length := 1; length <= 32 && from+length <= 8*len(b); length++ {
				checkBurst(t, b, from, length, math.MaxUint32)
				checkBurst(t, b, from, length, 0)
				checkBurst(t, b, from, length, r.Uint32())
			}
		}
	}
}

func TestShortBurstsInLongRecordsAreNoticed(t *testing.T) {
	r := rand.New(rand.NewSource(22))
	for _, n := range []int{100, 1000, maxPayload - 3, maxPayload} {
		b := encode(t, api.Needle{Key: r.Uint64(), Cookie: r.Uint32(), Data: content(r, n)})
		for range 2000 {
			length := 1 + r.Intn(32)
			checkBurst(t, b, r.Intn(8*len(b)-length+1), length, r.Uint32())
		}
		for from := 8*len(b) - 150; from <= 8*len(b)-32; from++ {
			checkBurst(t, b, from, 32, r.Uint32())
		}
	}
}

// The effects of changes add up, so no change of 32 bits goes unnoticed if the
// effects of the single bits are linearly independent: this covers all patterns.
// (Bits behind the checksum need no proof: they must be 0.)
func TestBitsOfAWindowAreIndependent(t *testing.T) {
	r := rand.New(rand.NewSource(23))
	for _, n := range []int{0, 1, 6, 8, 60} {
		b := encode(t, api.Needle{Key: r.Uint64(), Cookie: r.Uint32(), Data: content(r, n)})[:header+n+4]
		effects := make([]uint32, 8*len(b))
		for i := range effects {
			other := changed(b, i/8, b[i/8]^1<<(i%8))
			effects[i] = sum(other[:header+n]) ^ binary.LittleEndian.Uint32(other[header+n:])
		}
		for from := range len(effects) - 31 {
			if k := rank(effects[from : from+32]); k != 32 {
				t.Errorf("%d bytes of data: from bit %d on: rank %d", n, from, k)
			}
		}
	}
}

// rank counts the linearly independent numbers of l.
func rank(l []uint32) int {
	var base [32]uint32
	k := 0
	for _, v := range l {
		for i := 31; i >= 0 && v != 0; i-- {
			if v>>i&1 == 0 {
				continue
			}
			if base[i] == 0 {
				base[i] = v
				k++
				break
			}
			v ^= base[i]
		}
	}
	return k
}

// Rules R3 and R4, and rule 7 of LANGUAGE.md.

// spoil changes all bytes of b, and those behind it that an append reaches.
func spoil(b []byte) {
	b = b[:cap(b)]
	for i := range b {
		b[i] ^= 255
	}
}

// roomy returns a copy of b with room behind it, and all its memory.
func roomy(b []byte) (part, memory []byte) {
	memory = append(bytes.Clone(b), bytes.Repeat([]byte{1, 2, 3}, 20)...)
	return memory[:len(b)], memory
}

func TestEncodeHasMemoryOfItsOwn(t *testing.T) {
	r := rand.New(rand.NewSource(24))
	for _, n := range []int{0, 1, 7, 8, 9, 100, maxPayload, maxPayload + 1} {
		for _, deleted := range []bool{false, true} {
			data, memory := roomy(content(r, n))
			x, before := api.Needle{Key: 1, Cookie: 2, Deleted: deleted, Data: data}, bytes.Clone(memory)
			b, _ := needle.Encode(x)
			needle.Valid(x)
			spoil(b)
			if !bytes.Equal(memory, before) {
				t.Errorf("%d bytes, deleted %v: Encode or its result changes the argument", n, deleted)
			}
		}
	}
}

func TestDecodeHasMemoryOfItsOwn(t *testing.T) {
	r := rand.New(rand.NewSource(25))
	for _, n := range []int{0, 1, 7, 8, 9, 100, maxPayload} {
		want := api.Needle{Key: r.Uint64(), Cookie: r.Uint32(), Data: content(r, n)}
		b, memory := roomy(record(want))
		before := bytes.Clone(memory)
		x, _, _ := needle.Decode(b)
		kept := clone(x)
		spoil(memory)
		if !same(x, kept) || !same(x, want) {
			t.Errorf("%d bytes: the needle changes with the argument", n)
		}
		spoil(memory)
		spoil(x.Data)
		if !bytes.Equal(memory, before) {
			t.Errorf("%d bytes: Decode or its result changes the argument", n)
		}
		for k := range len(b) {
			needle.Decode(b[:k])
		}
		if !bytes.Equal(memory, before) {
			t.Errorf("%d bytes: Decode of a cut record changes the argument", n)
		}
	}
}

func TestCallsLeaveNoTrace(t *testing.T) {
	r := rand.New(rand.NewSource(26))
	x := api.Needle{Key: 5, Cookie: 6, Data: content(r, 50)}
	b := record(x)
	first := encode(t, x)
	y, _, _ := needle.Decode(b)
	spoil(first)
	spoil(y.Data)
	encode(t, api.Needle{Key: 7, Data: content(r, 200)})
	needle.Encode(api.Needle{Deleted: true, Data: content(r, 50)})
	needle.Decode(record(api.Needle{Key: 8, Data: content(r, 70)}))
	needle.Decode(b[:30])
	checkEncode(t, x, b)
	checkDecode(t, b, x, len(b))
}
