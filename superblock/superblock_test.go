package superblock_test

import (
	"bytes"
	"encoding/binary"
	"hash/crc32"
	"math"
	"math/rand"
	"testing"

	"needlestore/api"
	"needlestore/superblock"
)

// The numbers are written out, so that changed constants are noticed.
const (
	size    = 16
	before  = 12 // bytes before the checksum
	slots   = 4
	gens    = 8
	lastRev = 4294967295
)

// valid is 7.1 word for word.
func valid(s api.Super) bool {
	return s.Slot >= 0 && s.Slot <= slots-1 && s.Gen >= 1 && s.Gen <= gens && s.Rev >= 0 && s.Rev <= lastRev
}

// opened is a superblock without its checksum, with any numbers.
func opened(slot, gen uint16, rev uint32) []byte {
	b := []byte{'N', 'V', 'O', 'L'}
	b = binary.BigEndian.AppendUint16(b, slot)
	b = binary.BigEndian.AppendUint16(b, gen)
	return binary.BigEndian.AppendUint32(b, rev)
}

// closed returns b with its checksum.
func closed(b []byte) []byte {
	return binary.LittleEndian.AppendUint32(bytes.Clone(b), sum(b))
}

func sum(b []byte) uint32 { return crc32.Checksum(b, crc32.MakeTable(crc32.Castagnoli)) }

// block is the bytes of 7.1 word for word.
func block(s api.Super) []byte {
	return closed(opened(uint16(s.Slot), uint16(s.Gen), uint32(s.Rev)))
}

// decode is 7.2 word for word.
func decode(b []byte) (api.Super, api.Errno) {
	if len(b) < size {
		return api.Super{}, api.ErrShort
	}
	if b[0] != 'N' || b[1] != 'V' || b[2] != 'O' || b[3] != 'L' {
		return api.Super{}, api.ErrForm
	}
	if binary.LittleEndian.Uint32(b[before:]) != sum(b[:before]) {
		return api.Super{}, api.ErrCheck
	}
	s := api.Super{
		Slot: int(binary.BigEndian.Uint16(b[4:])),
		Gen:  int(binary.BigEndian.Uint16(b[6:])),
		Rev:  int64(binary.BigEndian.Uint32(b[8:])),
	}
	if !valid(s) {
		return api.Super{}, api.ErrForm
	}
	return s, api.OK
}

// revisions returns valid revisions: each single bit, all bits below one, the
// bounds and what is beside them, bytes that are all different, and random ones.
func revisions(r *rand.Rand) []int64 {
	l := []int64{0, 1, 2, 3, lastRev - 2, lastRev - 1, lastRev, 0x01020304, 0xa1b2c3d4, 0xff00ff00, 0x00ff00ff}
	for bit := range 32 {
		l = append(l, 1<<bit, 1<<bit-1, lastRev-1<<bit)
	}
	for range 20 {
		l = append(l, int64(r.Uint32()))
	}
	return l
}

// supers returns superblocks of all slots and generations.
func supers(r *rand.Rand) []api.Super {
	var l []api.Super
	for slot := range slots {
		for gen := 1; gen <= gens; gen++ {
			for _, rev := range revisions(r) {
				l = append(l, api.Super{Slot: slot, Gen: gen, Rev: rev})
			}
		}
	}
	return l
}

// anySuper returns one of all valid superblocks.
func anySuper(r *rand.Rand) api.Super {
	return api.Super{Slot: r.Intn(slots), Gen: 1 + r.Intn(gens), Rev: int64(r.Uint32())}
}

// invalid returns superblocks in which at least one number is out of bounds, by
// one, by much, or by as much as its bytes do not show.
func invalid() []api.Super {
	slotList := []int{0, slots - 1, -1, slots, slots + 1, 255, 256, 65535, 65536, 65537, -65536, -65535, math.MaxInt32, math.MinInt32, math.MaxInt, math.MinInt, math.MinInt + 1}
	genList := []int{1, gens, 0, -1, gens + 1, 255, 256, 257, 65535, 65536, 65537, -65535, -65528, math.MaxInt32, math.MinInt32, math.MaxInt, math.MinInt, math.MinInt + 1}
	revList := []int64{0, 1, lastRev - 1, lastRev, -1, -2, lastRev + 1, lastRev + 2, 1 << 33, 1<<33 - 1, -lastRev, -lastRev - 1, -lastRev - 2, math.MinInt32, math.MaxInt64, math.MaxInt64 - 1, math.MinInt64, math.MinInt64 + 1}
	var l []api.Super
	for _, slot := range slotList {
		for _, gen := range genList {
			for _, rev := range revList {
				if s := (api.Super{Slot: slot, Gen: gen, Rev: rev}); !valid(s) {
					l = append(l, s)
				}
			}
		}
	}
	return l
}

// changed returns b with another byte at i.
func changed(b []byte, i int, x byte) []byte {
	b = bytes.Clone(b)
	b[i] = x
	return b
}

func encode(t *testing.T, s api.Super) []byte {
	t.Helper()
	b, e := superblock.Encode(s)
	if e != api.OK {
		t.Fatalf("Encode(%v): error %d", s, e)
	}
	return b
}

func checkValid(t *testing.T, s api.Super, want bool) {
	t.Helper()
	if v := superblock.Valid(s); v != want {
		t.Errorf("Valid(%v) = %v, want %v", s, v, want)
	}
}

func checkEncode(t *testing.T, s api.Super, want []byte) {
	t.Helper()
	if b, e := superblock.Encode(s); e != api.OK || !bytes.Equal(b, want) {
		t.Errorf("Encode(%v) = %v, error %d, want %v", s, b, e, want)
	}
}

func checkNoEncode(t *testing.T, s api.Super) {
	t.Helper()
	if b, e := superblock.Encode(s); e != api.ErrArg || len(b) != 0 {
		t.Errorf("Encode(%v) = %v, error %d, want ErrArg", s, b, e)
	}
}

func checkDecode(t *testing.T, what string, b []byte, want api.Super, err api.Errno) {
	t.Helper()
	if s, e := superblock.Decode(b); e != err || s != want {
		t.Errorf("%s: Decode(%v) = %v, error %d, want %v, error %d", what, b, s, e, want, err)
	}
}

func checkNoDecode(t *testing.T, what string, b []byte, err api.Errno) {
	t.Helper()
	checkDecode(t, what, b, api.Super{}, err)
}

func checkNext(t *testing.T, s, want api.Super, err api.Errno) {
	t.Helper()
	if n, e := superblock.Next(s); e != err || n != want {
		t.Errorf("Next(%v) = %v, error %d, want %v, error %d", s, n, e, want, err)
	}
}

// checkLikeChapter compares Decode with 7.2, and what it accepts with what Encode writes.
func checkLikeChapter(t *testing.T, what string, b []byte) api.Errno {
	t.Helper()
	s, e := decode(b)
	checkDecode(t, what, b, s, e)
	if e == api.OK {
		checkEncode(t, s, b[:size])
	}
	return e
}

// The chapter's examples.

func TestExamples(t *testing.T) {
	checkNoEncode(t, api.Super{Slot: 0, Gen: 0, Rev: 0})
	checkNext(t, api.Super{Slot: 1, Gen: 1, Rev: 0}, api.Super{Slot: 1, Gen: 1, Rev: 1}, api.OK)
}

// Promise 7.1.

func TestValidAtEachBound(t *testing.T) {
	for slot, want := range map[int]bool{-2: false, -1: false, 0: true, 1: true, 2: true, 3: true, 4: false, 5: false} {
		checkValid(t, api.Super{Slot: slot, Gen: 1}, want)
		checkValid(t, api.Super{Slot: slot, Gen: 8, Rev: 4294967295}, want)
	}
	for gen, want := range map[int]bool{-1: false, 0: false, 1: true, 2: true, 7: true, 8: true, 9: false, 10: false} {
		checkValid(t, api.Super{Slot: 0, Gen: gen}, want)
		checkValid(t, api.Super{Slot: 3, Gen: gen, Rev: 4294967295}, want)
	}
	for rev, want := range map[int64]bool{
		-2: false, -1: false, 0: true, 1: true, 1 << 31: true, 4294967294: true, 4294967295: true, 4294967296: false, 4294967297: false,
	} {
		checkValid(t, api.Super{Slot: 0, Gen: 1, Rev: rev}, want)
		checkValid(t, api.Super{Slot: 3, Gen: 8, Rev: rev}, want)
	}
}

func TestValidFarFromTheBounds(t *testing.T) {
	for n := range 70000 {
		checkValid(t, api.Super{Slot: n, Gen: 1}, n < slots)
		checkValid(t, api.Super{Slot: -n, Gen: 1}, n == 0)
		checkValid(t, api.Super{Gen: n}, n >= 1 && n <= gens)
		checkValid(t, api.Super{Gen: -n}, false)
		checkValid(t, api.Super{Gen: 1, Rev: -int64(n)}, n == 0)
		checkValid(t, api.Super{Gen: 1, Rev: lastRev - 35000 + int64(n)}, n <= 35000)
	}
}

func TestValidOfSuperblocks(t *testing.T) {
	for _, s := range supers(rand.New(rand.NewSource(1))) {
		checkValid(t, s, true)
	}
}

func TestInvalidSuperblocks(t *testing.T) {
	for _, s := range invalid() {
		checkValid(t, s, false)
		checkNoEncode(t, s)
	}
}

func TestEncodeByteByByte(t *testing.T) {
	for _, c := range []struct {
		s    api.Super
		want []byte
	}{
		{api.Super{Slot: 0, Gen: 1, Rev: 0}, []byte{'N', 'V', 'O', 'L', 0, 0, 0, 1, 0, 0, 0, 0, 0xe9, 0xd8, 0x6e, 0xba}},
		{api.Super{Slot: 2, Gen: 5, Rev: 0x01020304}, []byte{'N', 'V', 'O', 'L', 0, 2, 0, 5, 1, 2, 3, 4, 0xfa, 0xf8, 0x7a, 0xeb}},
		{api.Super{Slot: 1, Gen: 4, Rev: 0xa1b2c3d4}, []byte{'N', 'V', 'O', 'L', 0, 1, 0, 4, 0xa1, 0xb2, 0xc3, 0xd4, 0x31, 0x13, 0x2d, 0x23}},
		{api.Super{Slot: 3, Gen: 8, Rev: 4294967295}, []byte{78, 86, 79, 76, 0, 3, 0, 8, 255, 255, 255, 255, 0xb4, 0x7d, 0x85, 0x48}},
		{api.Super{Slot: 3, Gen: 1, Rev: 1 << 24}, []byte{78, 86, 79, 76, 0, 3, 0, 1, 1, 0, 0, 0, 0x09, 0x07, 0x2e, 0xdf}},
	} {
		checkEncode(t, c.s, c.want)
		checkDecode(t, "byte by byte", c.want, c.s, api.OK)
	}
}

func TestEncode(t *testing.T) {
	for _, s := range supers(rand.New(rand.NewSource(2))) {
		checkEncode(t, s, block(s))
	}
}

func TestEncodeReturnsSuperSizeBytes(t *testing.T) {
	const n int = api.SuperSize
	if b := encode(t, api.Super{Gen: 1}); len(b) != size || n != size {
		t.Errorf("%d bytes, SuperSize %d", len(b), n)
	}
}

// Promise 7.2.

func TestDecode(t *testing.T) {
	for _, s := range supers(rand.New(rand.NewSource(3))) {
		checkDecode(t, "a superblock", block(s), s, api.OK)
	}
}

func TestDecodeLeavesTheBytesBehind(t *testing.T) {
	r := rand.New(rand.NewSource(4))
	for _, s := range supers(r) {
		other := block(anySuper(r))
		for _, more := range [][]byte{{0}, {1, 2}, {255, 255, 255, 255}, make([]byte, 100), other, other[:15], []byte("NVOL")} {
			checkDecode(t, "with bytes behind it", append(block(s), more...), s, api.OK)
		}
	}
}

func TestDecodeOfCutSuperblocks(t *testing.T) {
	for _, s := range supers(rand.New(rand.NewSource(5))) {
		b := block(s)
		for k := range size {
			checkNoDecode(t, "a cut superblock", b[:k], api.ErrShort)
		}
	}
	checkNoDecode(t, "nil", nil, api.ErrShort)
	checkNoDecode(t, "no bytes", []byte{}, api.ErrShort)
}

// The checksum of the changed bytes fits or not: it does not matter.
func TestDecodeOfOtherFirstBytes(t *testing.T) {
	r := rand.New(rand.NewSource(6))
	for range 5 {
		b := block(anySuper(r))
		for i := range 4 {
			for v := range 255 {
				other := changed(b, i, b[i]+1+byte(v))
				checkNoDecode(t, "another first byte", other, api.ErrForm)
				checkNoDecode(t, "another first byte, the checksum fits", closed(other[:before]), api.ErrForm)
			}
		}
		for _, mark := range []string{"NIDX", "nvol", "LOVN", "\x00\x00\x00\x00"} {
			other := append([]byte(mark), b[4:]...)
			checkNoDecode(t, mark, other, api.ErrForm)
			checkNoDecode(t, mark, closed(other[:before]), api.ErrForm)
		}
	}
}

func TestDecodeOfOtherChecksums(t *testing.T) {
	r := rand.New(rand.NewSource(7))
	for range 20 {
		b := block(anySuper(r))
		for i := before; i < size; i++ {
			for v := range 255 {
				checkNoDecode(t, "another checksum", changed(b, i, b[i]+1+byte(v)), api.ErrCheck)
			}
		}
		reversed := binary.BigEndian.AppendUint32(bytes.Clone(b[:before]), sum(b[:before]))
		checkNoDecode(t, "a reversed checksum", reversed, api.ErrCheck)
		short := binary.LittleEndian.AppendUint32(bytes.Clone(b[:before]), sum(b[4:before]))
		checkNoDecode(t, "a checksum without the first bytes", short, api.ErrCheck)
		inverse := binary.LittleEndian.AppendUint32(bytes.Clone(b[:before]), ^sum(b[:before]))
		checkNoDecode(t, "the complement of the checksum", inverse, api.ErrCheck)
	}
}

func TestDecodeOfChangedNumbers(t *testing.T) {
	r := rand.New(rand.NewSource(8))
	for range 20 {
		b := block(anySuper(r))
		for i := 4; i < before; i++ {
			for v := range 255 {
				checkNoDecode(t, "another number", changed(b, i, b[i]+1+byte(v)), api.ErrCheck)
			}
		}
	}
}

// The checksum fits: only the numbers decide.
func TestDecodeOfNumbersThatAreNotValid(t *testing.T) {
	few := []uint16{0, 1, 2, 3, 4, 8, 9, 255, 256, 257, 0x0103, 0x0108, 32768, 65535}
	seen := map[api.Errno]int{}
	for n := range 65536 {
		for i, x := range few {
			rev := uint32(n) * uint32(i) * 65537
			seen[checkLikeChapter(t, "any slot", closed(opened(uint16(n), x, rev)))]++
			seen[checkLikeChapter(t, "any generation", closed(opened(x, uint16(n), rev)))]++
		}
	}
	// Valid are 4 slots with 5 generations of few, and 8 generations with 4 slots of few.
	if seen[api.OK] != 4*5+8*4 || seen[api.ErrForm] != 2*65536*len(few)-seen[api.OK] {
		t.Errorf("%v", seen)
	}
}

// Every set of mistakes: the first one in the order of 7.2 is the error.
func TestDecodeOfSeveralMistakes(t *testing.T) {
	r := rand.New(rand.NewSource(9))
	numbers := [][2]uint16{{0, 0}, {3, 0}, {4, 1}, {0, 9}, {256, 1}, {0, 257}, {65535, 65535}}
	for mistakes := range 16 {
		for _, n := range numbers {
			for range 50 {
				open, want := opened(uint16(r.Intn(slots)), uint16(1+r.Intn(gens)), r.Uint32()), api.OK
				if mistakes&1 != 0 {
					open, want = opened(n[0], n[1], r.Uint32()), api.ErrForm
				}
				b := closed(open)
				if mistakes&2 != 0 {
					b[before+r.Intn(4)] ^= byte(1 + r.Intn(255))
					want = api.ErrCheck
				}
				if mistakes&4 != 0 {
					b[r.Intn(4)] ^= byte(1 + r.Intn(255))
					want = api.ErrForm
				}
				if mistakes&8 != 0 {
					b, want = b[:r.Intn(size)], api.ErrShort
				}
				if e := checkLikeChapter(t, "several mistakes", b); e != want {
					t.Errorf("mistakes %b: error %d, want %d", mistakes, e, want)
				}
			}
		}
	}
}

// Many of these bytes are superblocks, and many others have only one mistake.
func TestDecodeOfRandomBytes(t *testing.T) {
	r := rand.New(rand.NewSource(10))
	seen := map[api.Errno]int{}
	for range 100000 {
		b := opened(uint16(r.Intn(slots+1)), uint16(r.Intn(gens+2)), r.Uint32())
		if r.Intn(8) == 0 {
			b[r.Intn(before)] = byte(r.Uint32())
		}
		b = closed(b)
		if r.Intn(4) == 0 {
			b[r.Intn(size)] ^= 1 << r.Intn(8)
		}
		b = append(b, make([]byte, r.Intn(3))...)
		if r.Intn(8) == 0 {
			b = b[:r.Intn(len(b))]
		}
		seen[checkLikeChapter(t, "random bytes", b)]++
	}
	for _, e := range []api.Errno{api.OK, api.ErrShort, api.ErrForm, api.ErrCheck} {
		if seen[e] < 1000 {
			t.Errorf("error %d only %d times", e, seen[e])
		}
	}
}

// Promise 7.3.

func TestNext(t *testing.T) {
	for _, s := range supers(rand.New(rand.NewSource(11))) {
		if s.Rev == lastRev {
			continue
		}
		checkNext(t, s, api.Super{Slot: s.Slot, Gen: s.Gen, Rev: s.Rev + 1}, api.OK)
	}
}

func TestNextOfTheLastRevision(t *testing.T) {
	for slot := range slots {
		for gen := 1; gen <= gens; gen++ {
			last := api.Super{Slot: slot, Gen: gen, Rev: lastRev}
			checkNext(t, api.Super{Slot: slot, Gen: gen, Rev: lastRev - 1}, last, api.OK)
			checkNext(t, last, api.Super{}, api.ErrRange)
		}
	}
}

// ErrArg comes first, also where the next revision would be valid (after -1) or
// where there is no next number at all.
func TestNextOfInvalidSuperblocks(t *testing.T) {
	for _, s := range invalid() {
		checkNext(t, s, api.Super{}, api.ErrArg)
	}
}

func TestNextAgainAndAgain(t *testing.T) {
	s := api.Super{Slot: 2, Gen: 3, Rev: lastRev - 1000}
	for k := range int64(1000) {
		n, e := superblock.Next(s)
		if e != api.OK || n != (api.Super{Slot: 2, Gen: 3, Rev: lastRev - 999 + k}) || !superblock.Valid(n) {
			t.Fatalf("Next(%v) = %v, error %d", s, n, e)
		}
		s = n
	}
	checkNext(t, s, api.Super{}, api.ErrRange)
}

// Promise 7.4.

func TestDecodeRestoresWhatEncodeWrites(t *testing.T) {
	for _, s := range supers(rand.New(rand.NewSource(12))) {
		checkDecode(t, "what Encode writes", encode(t, s), s, api.OK)
	}
}

// What Decode accepts is what Encode writes: no other bytes are the superblock.
func TestDecodeAcceptsOnlyWhatEncodeWrites(t *testing.T) {
	r := rand.New(rand.NewSource(13))
	accepted := 0
	for range 50000 {
		b := closed(opened(uint16(r.Intn(slots+2)), uint16(r.Intn(gens+2)), r.Uint32()))
		if r.Intn(4) == 0 {
			b[r.Intn(size)] ^= 1 << r.Intn(8)
		}
		s, e := superblock.Decode(b)
		if e != api.OK {
			continue
		}
		accepted++
		checkValid(t, s, true)
		checkEncode(t, s, b)
	}
	if accepted < 10000 {
		t.Errorf("only %d accepted", accepted)
	}
}

// checkBurst changes the first and the last bit of a range, and those between
// them that inner names. Bits are counted as in 1.4, in each byte from the least
// significant one: counted from the other end, 32 consecutive bits may span 40,
// and 7.4 would not hold for all of them.
func checkBurst(t *testing.T, b []byte, from, length int, inner uint32) {
	t.Helper()
	other := bytes.Clone(b)
	for i := range length {
		if bit := from + i; i == 0 || i == length-1 || inner>>i&1 == 1 {
			other[bit/8] ^= 1 << (bit % 8)
		}
	}
	s, e := superblock.Decode(other)
	if e == api.OK || s != (api.Super{}) {
		t.Errorf("%v: %d bits from %d on, pattern %#x: %v, error %d", b, length, from, inner, s, e)
	}
}

func TestEveryShortBurstIsNoticed(t *testing.T) {
	r := rand.New(rand.NewSource(14))
	l := []api.Super{{Gen: 1}, {Slot: slots - 1, Gen: gens, Rev: lastRev}}
	for range 10 {
		l = append(l, anySuper(r))
	}
	for _, s := range l {
		b := encode(t, s)
		for from := range 8 * size {
			for length := 1; length <= 32 && from+length <= 8*size; length++ {
				checkBurst(t, b, from, length, math.MaxUint32)
				checkBurst(t, b, from, length, 0)
				checkBurst(t, b, from, length, r.Uint32())
			}
		}
	}
}

func TestEveryPatternOfAVeryShortBurstIsNoticed(t *testing.T) {
	b := encode(t, anySuper(rand.New(rand.NewSource(15))))
	for from := range 8 * size {
		for length := 1; length <= 12 && from+length <= 8*size; length++ {
			for inner := uint32(0); inner < 1<<length; inner += 2 {
				checkBurst(t, b, from, length, inner)
			}
		}
	}
}

// The effects of changes add up, so no change of 32 bits goes unnoticed in any
// superblock if the effects of the single bits are linearly independent: this
// covers all patterns.
func TestBitsOfAWindowAreIndependent(t *testing.T) {
	b := encode(t, anySuper(rand.New(rand.NewSource(16))))
	effects := make([]uint32, 8*size)
	for i := range effects {
		other := changed(b, i/8, b[i/8]^1<<(i%8))
		effects[i] = sum(other[:before]) ^ binary.LittleEndian.Uint32(other[before:])
	}
	for from := range len(effects) - 31 {
		if !independent(effects[from : from+32]) {
			t.Errorf("from bit %d on: not independent", from)
		}
	}
}

// independent reports whether no choice of numbers of l adds up to 0. What is
// left of each number has none of the leading bits of those before it.
func independent(l []uint32) bool {
	var rests []uint32
	for _, v := range l {
		for _, rest := range rests {
			v = min(v, v^rest)
		}
		if v == 0 {
			return false
		}
		rests = append(rests, v)
	}
	return true
}

// Rules R3 and R4, and rule 7 of LANGUAGE.md.

// The memory ends behind the argument or goes on.
func TestDecodeLeavesItsArgument(t *testing.T) {
	s := api.Super{Slot: 1, Gen: 2, Rev: 3}
	b := block(s)
	l := [][]byte{b, closed(opened(0, 0, 0)), closed(opened(slots, gens+1, 5)), make([]byte, size)}
	for i := range b {
		l = append(l, changed(b, i, ^b[i]), closed(changed(b[:before], i%before, 0)))
	}
	for _, memory := range l {
		memory = append(memory, 1, 2, 3)
		kept := bytes.Clone(memory)
		for k := range len(memory) + 1 {
			superblock.Decode(memory[:k])
		}
		if !bytes.Equal(memory, kept) {
			t.Errorf("%v became %v", kept, memory)
		}
	}
	x, _ := superblock.Decode(b)
	clear(b)
	if x != s {
		t.Errorf("the superblock changes with the argument: %v, want %v", x, s)
	}
}

func TestEncodeHasMemoryOfItsOwn(t *testing.T) {
	s, other := api.Super{Slot: 1, Gen: 2, Rev: 3}, api.Super{Slot: 3, Gen: 8, Rev: lastRev}
	first, second := encode(t, s), encode(t, s)
	third := encode(t, other)
	clear(first[:cap(first)])
	if !bytes.Equal(second, block(s)) || !bytes.Equal(third, block(other)) {
		t.Errorf("results share memory: %v, %v", second, third)
	}
	checkEncode(t, s, block(s))
	checkDecode(t, "after a changed result", block(s), s, api.OK)
}

func TestCallsLeaveNoTrace(t *testing.T) {
	s := api.Super{Slot: 1, Gen: 2, Rev: 3}
	b := block(s)
	for range 2 {
		checkValid(t, s, true)
		checkEncode(t, s, b)
		checkDecode(t, "once more", b, s, api.OK)
		checkNext(t, s, api.Super{Slot: 1, Gen: 2, Rev: 4}, api.OK)
		checkNoEncode(t, api.Super{Slot: 7})
		checkNoDecode(t, "no superblock", make([]byte, size), api.ErrForm)
		checkNoDecode(t, "a cut superblock", b[:9], api.ErrShort)
		checkNext(t, api.Super{Gen: 1, Rev: lastRev}, api.Super{}, api.ErrRange)
		checkEncode(t, api.Super{Slot: 3, Gen: 8, Rev: lastRev}, block(api.Super{Slot: 3, Gen: 8, Rev: lastRev}))
	}
}
