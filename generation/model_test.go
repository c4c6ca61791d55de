package generation_test

import (
	"bytes"
	"fmt"
	"maps"
	"math"
	"math/rand"
	"slices"
	"testing"

	"needlestore/api"
	"needlestore/generation"
	"needlestore/needle"
	"needlestore/nmap"
	"needlestore/superblock"
)

// This file has the chapter word for word, and the names, needles and generations
// on which the program is compared with it. The numbers are written out, so that
// changed constants are noticed. The functions of the packages below are used as
// they are.

const (
	dat, shadow, journal, index, shard = 1, 2, 3, 4, 5
	writable, frozen, sealed           = 1, 2, 3

	slots      = 4
	gens       = 8
	shards     = 6
	stripes    = 8
	superSize  = 16
	maxFile    = 1048576
	maxPayload = 4096
	maxRev     = 4294967295
	maxKey     = math.MaxUint64
)

type (
	name = generation.Name
	gen  = generation.Gen
)

// validName is the first sentence of 12.1 word for word.
func validName(x name) bool {
	greatest, mayBeTemp := 0, false
	switch x.Kind {
	case dat, shadow, journal:
	case index:
		mayBeTemp = true
	case shard:
		greatest, mayBeTemp = 5, true
	default:
		return false
	}
	return x.Slot >= 0 && x.Slot <= 3 && x.Gen >= 1 && x.Gen <= 8 && x.Shard >= 0 && x.Shard <= greatest && (mayBeTemp || !x.Temp)
}

// texts returns all valid names by their texts.
func texts() map[string]name {
	all := map[string]name{}
	for slot := range slots {
		for num := 1; num <= gens; num++ {
			for kind, ending := range map[int]string{dat: "dat", shadow: "shd", journal: "del", index: "idx"} {
				all[fmt.Sprintf("v.%d.%d.%s", slot, num, ending)] = name{Kind: kind, Slot: slot, Gen: num}
			}
			all[fmt.Sprintf("v.%d.%d.idx.tmp", slot, num)] = name{Kind: index, Slot: slot, Gen: num, Temp: true}
			for i := range shards {
				all[fmt.Sprintf("v.%d.%d.ec%d", slot, num, i)] = name{Kind: shard, Slot: slot, Gen: num, Shard: i}
				all[fmt.Sprintf("v.%d.%d.ec%d.tmp", slot, num, i)] = name{Kind: shard, Slot: slot, Gen: num, Shard: i, Temp: true}
			}
		}
	}
	return all
}

// sortedTexts returns the texts of all valid names in ascending order.
func sortedTexts() []string { return slices.Sorted(maps.Keys(texts())) }

// length is the length of the record of a needle with n bytes of data: header,
// data and checksum, and then bytes up to a multiple of 8.
func length(n int) int64 {
	sum := int64(20 + n + 4)
	for sum%8 != 0 {
		sum++
	}
	return sum
}

// overlap reports whether two records have a byte in common.
func overlap(x, y api.Item) bool {
	return x.Off < y.Off+length(y.Size) && y.Off < x.Off+length(x.Size)
}

// fits reports whether the records of all items end at most at size and do not overlap.
func fits(l []api.Item, size int64) bool {
	for i, x := range l {
		if x.Off+length(x.Size) > size {
			return false
		}
		for _, y := range l[:i] {
			if overlap(x, y) {
				return false
			}
		}
	}
	return true
}

// valid is 12.2 word for word.
func valid(g gen) bool {
	switch {
	case g.Num < 1 || g.Num > 8, g.Rev < 0 || g.Rev > maxRev, g.Mode != 1 && g.Mode != 2 && g.Mode != 3:
		return false
	case g.Size < 16 || g.Size > maxFile || g.Size%8 != 0, !nmap.Valid(g.Map):
		return false
	}
	return fits(nmap.Items(g.Map), g.Size) && g.Size == 16+g.Map.Live+g.Map.Garbage
}

// goodNeedle is 6.1 word for word.
func goodNeedle(x api.Needle) bool {
	return len(x.Data) <= maxPayload && (!x.Deleted || len(x.Data) == 0)
}

// add is 12.3 word for word: one record after the other.
func add(g gen, l []api.Needle) (gen, api.Errno) {
	if !valid(g) {
		return gen{}, api.ErrArg
	}
	for _, x := range l {
		if !goodNeedle(x) {
			return gen{}, api.ErrArg
		}
	}
	if g.Mode != writable {
		return gen{}, api.ErrState
	}
	for _, x := range l {
		n := length(len(x.Data))
		if x.Deleted {
			g.Map = nmap.Waste(nmap.Delete(g.Map, x.Key), n)
		} else {
			g.Map = nmap.Put(g.Map, api.Item{Key: x.Key, Cookie: x.Cookie, Off: g.Size, Size: len(x.Data)})
		}
		g.Size += n
	}
	if g.Size > maxFile {
		return gen{}, api.ErrFull
	}
	return g, api.OK
}

// kill, freeze and seal are 12.4 word for word, and swap is 12.5.

func kill(g gen, keys []uint64) (gen, api.Errno) {
	if !valid(g) {
		return gen{}, api.ErrArg
	}
	if g.Mode == writable {
		return gen{}, api.ErrState
	}
	for _, key := range keys {
		g.Map = nmap.Delete(g.Map, key)
	}
	return g, api.OK
}

func freeze(g gen) (gen, api.Errno) {
	if !valid(g) {
		return gen{}, api.ErrArg
	}
	if g.Mode != writable {
		return gen{}, api.ErrState
	}
	g.Mode = frozen
	return g, api.OK
}

func seal(g gen) (gen, api.Errno) {
	if !valid(g) {
		return gen{}, api.ErrArg
	}
	if g.Mode != frozen {
		return gen{}, api.ErrState
	}
	g.Mode = sealed
	return g, api.OK
}

func swap(g gen, rev, size int64, m nmap.Map) (gen, api.Errno) {
	if !valid(g) {
		return gen{}, api.ErrArg
	}
	if g.Mode != writable || rev-1 != g.Rev {
		return gen{}, api.ErrState
	}
	g.Rev, g.Size, g.Map = rev, size, m
	if !valid(g) {
		return gen{}, api.ErrArg
	}
	return g, api.OK
}

// put returns a needle with n bytes of data. Needles with other numbers n are different.
func put(key uint64, n int) api.Needle {
	return api.Needle{Key: key, Cookie: uint32(n)*7 + 1, Data: bytes.Repeat([]byte{byte(key) + 65}, n)}
}

func tombstone(key uint64) api.Needle { return api.Needle{Key: key, Cookie: 5, Deleted: true} }

// badNeedles returns needles with this key that are not valid.
func badNeedles(key uint64) []api.Needle {
	var l []api.Needle
	for _, n := range []int{maxPayload + 1, maxPayload + 8, 1 << 16, 1 << 20} {
		l = append(l, api.Needle{Key: key, Data: make([]byte, n)}, api.Needle{Key: key, Deleted: true, Data: make([]byte, n)})
	}
	for _, n := range []int{1, 2, 8, maxPayload} {
		l = append(l, api.Needle{Key: key, Deleted: true, Data: make([]byte, n)})
	}
	return l
}

// of returns a Writable generation 2 with these items, in a file in which garbage
// is the rest. It is valid, if they end at most at size and do not overlap.
func of(size int64, l ...api.Item) gen {
	m := nmap.From(l, 0)
	if len(l) > 0 && nmap.Len(m) == 0 {
		panic("an item is not valid")
	}
	m.Garbage = size - superSize - m.Live
	return gen{Num: 2, Rev: 7, Mode: writable, Size: size, Map: m}
}

// inMode returns g with another mode.
func inMode(g gen, mode int) gen {
	g.Mode = mode
	return g
}

// inEachMode returns the generations in all modes.
func inEachMode(l ...gen) []gen {
	var all []gen
	for _, mode := range []int{writable, frozen, sealed} {
		for _, g := range l {
			all = append(all, inMode(g, mode))
		}
	}
	return all
}

// laid returns items with these keys and sizes, each behind the record of the one
// before, the first one behind the superblock, and the end of the last one.
func laid(keys []uint64, sizes []int) ([]api.Item, int64) {
	off := int64(superSize)
	var l []api.Item
	for i, key := range keys {
		l = append(l, api.Item{Key: key, Cookie: uint32(i), Off: off, Size: sizes[i%len(sizes)]})
		off += length(sizes[i%len(sizes)])
	}
	return l, off
}

// anyGen returns a valid generation with at most n items at any places.
func anyGen(r *rand.Rand, n int) gen {
	off := int64(superSize)
	var l []api.Item
	for key := range uint64(n) {
		off += 8 * int64(r.Intn(3))
		size := r.Intn(60)
		if r.Intn(4) > 0 {
			l = append(l, api.Item{Key: key, Cookie: r.Uint32(), Off: off, Size: size})
		}
		off += length(size)
	}
	r.Shuffle(len(l), func(i, j int) { l[i].Key, l[j].Key = l[j].Key, l[i].Key })
	g := of(off+8*int64(r.Intn(5)), l...)
	g.Num, g.Rev = 1+r.Intn(gens), int64(r.Uint32())
	return g
}

// goodGens returns valid generations of all modes: without items, with one item
// and with several, with and without garbage, with numbers at their bounds.
func goodGens(r *rand.Rand) []gen {
	six, end := laid([]uint64{5, 1, 0, 9, maxKey, 77}, []int{0, 3, 40, 100})
	l := []gen{
		{Num: 1, Mode: writable, Size: 16}, {Num: 8, Rev: maxRev, Mode: writable, Size: 16}, of(24), of(40), of(maxFile), of(maxFile - 8), of(maxFile - 24),
		of(40, api.Item{Key: 3, Off: 16}), of(48, api.Item{Key: 3, Off: 24}), of(64, api.Item{Key: 3, Off: 24, Size: 8}),
		of(maxFile, api.Item{Key: maxKey, Off: maxFile - 24}), of(maxFile, api.Item{Key: maxKey, Off: maxFile - 4120, Size: maxPayload}),
		of(end, six...), of(end+8, six...), of(end, six[1:]...), of(end, six[:5]...), of(maxFile, six...),
	}
	for n := range 12 {
		l = append(l, anyGen(r, n))
	}
	return inEachMode(l...)
}

func badNumbers(g gen) []gen {
	var l []gen
	for _, num := range []int{0, -1, -8, 9, 10, 257, 1<<32 + 1, 1<<62 + 1, math.MaxInt, math.MinInt, math.MinInt + 1} {
		x := g
		x.Num = num
		l = append(l, x)
	}
	for _, rev := range []int64{-1, -2, -maxRev, maxRev + 1, maxRev + 2, 1<<33 + 1, math.MaxInt64, math.MinInt64, math.MinInt64 + 1} {
		x := g
		x.Rev = rev
		l = append(l, x)
	}
	for _, mode := range []int{0, -1, -2, -3, 4, 5, 257, 1<<32 + 1, math.MaxInt, math.MinInt, math.MinInt + 1} {
		l = append(l, inMode(g, mode))
	}
	return l
}

// badSizes returns g with sizes, and with sizes and fitting garbage, that are not valid.
func badSizes(g gen) []gen {
	var l []gen
	for _, d := range []int64{-24, -16, -8, -1, 1, 4, 8, 16, 24, 1 << 32, 1 << 62} {
		x, y := g, g
		x.Size += d
		y.Map.Garbage += d
		l = append(l, x, y)
	}
	for _, size := range []int64{0, 8, -16, maxFile + 8, math.MaxInt64, math.MinInt64, math.MinInt64 + 16} {
		x := g
		x.Size = size
		l = append(l, x)
	}
	for _, size := range []int64{g.Size + 1, g.Size + 2, g.Size + 4, g.Size + 7, maxFile + 1, maxFile + 8, maxFile + 16, 2 * maxFile, 1<<32 + 16, 1<<40 + 16} {
		x := g
		x.Map.Garbage += size - x.Size
		x.Size = size
		l = append(l, x)
	}
	return l
}

// copied returns g in memory of its own.
func copied(g gen) gen {
	for s, l := range g.Map.Stripes {
		g.Map.Stripes[s] = slices.Clone(l)
	}
	return g
}

// badMaps returns g with maps that are not valid, where Size fits as far as possible.
func badMaps(g gen) []gen {
	change := func(f func(m *nmap.Map)) gen {
		x := copied(g)
		f(&x.Map)
		return x
	}
	l := []gen{
		change(func(m *nmap.Map) { m.Live, m.Garbage = m.Live+8, m.Garbage-8 }),
		change(func(m *nmap.Map) { m.Live, m.Garbage = m.Live-8, m.Garbage+8 }),
		change(func(m *nmap.Map) { m.Live, m.Garbage = m.Live+m.Garbage+8, -8 }),
		change(func(m *nmap.Map) { m.Live, m.Garbage = -8, m.Live+m.Garbage+8 }),
		change(func(m *nmap.Map) { m.Stripes[0] = append(m.Stripes[0], api.Item{Key: 1, Off: 24}) }),
	}
	for s, items := range g.Map.Stripes {
		for i, x := range items {
			l = append(l,
				change(func(m *nmap.Map) { m.Stripes[s][i].Off = 8 }),
				change(func(m *nmap.Map) { m.Stripes[s][i].Off = -16 }),
				change(func(m *nmap.Map) { m.Stripes[s][i].Off = x.Off + 4 }),
				change(func(m *nmap.Map) { m.Stripes[s][i].Off = maxFile + 8 }),
				change(func(m *nmap.Map) { m.Stripes[s][i].Off = math.MaxInt64 - 7 }),
				change(func(m *nmap.Map) { m.Stripes[s][i].Size = -1 }),
				change(func(m *nmap.Map) { m.Stripes[s][i].Size = maxPayload + 1 }),
				change(func(m *nmap.Map) { m.Stripes[(s+1)%stripes] = append(m.Stripes[(s+1)%stripes], x) }),
			)
		}
		if len(items) > 1 {
			l = append(l, change(func(m *nmap.Map) { slices.Reverse(m.Stripes[s]) }))
		}
	}
	return l
}

// badPlaces returns generations of which one item ends behind Size, or has bytes
// of the record of another one.
func badPlaces(six []api.Item, end int64) []gen {
	l := []gen{
		of(40, api.Item{Key: 3, Off: 24}), of(40, api.Item{Key: 3, Off: 40}), of(72, api.Item{Key: 3, Off: 40, Size: 9}), of(72, api.Item{Key: 3, Off: 64, Size: 9}),
		of(40, api.Item{Key: 3, Off: maxFile}), of(maxFile, api.Item{Key: 3, Off: maxFile}), of(maxFile, api.Item{Key: 3, Off: maxFile - 16}),
		of(maxFile, api.Item{Key: 3, Off: maxFile - 4112, Size: maxPayload}),
	}
	for i := range six {
		for j := range six {
			if i == j {
				continue
			}
			for _, d := range []int64{-length(six[i].Size) + 8, -8, 0, 8, length(six[j].Size) - 8} {
				x := slices.Clone(six)
				x[i].Off = max(x[j].Off+d, superSize)
				l = append(l, of(end+200, x...))
			}
		}
		x := slices.Clone(six)
		x[i].Off = end + 200 - length(x[i].Size) + 8
		l = append(l, of(end+200, x...))
	}
	return inEachMode(l...)
}

// badGens returns generations that are not valid. Nearly all of them break one
// condition and no other, where this is possible.
func badGens(t *testing.T) []gen {
	t.Helper()
	six, end := laid([]uint64{5, 1, 0, 9, maxKey, 77}, []int{0, 3, 40, 100})
	l := append(badPlaces(six, end), gen{}, gen{Num: 1, Mode: writable}, gen{Size: 16}, gen{Num: 1, Mode: writable, Size: 8})
	for _, g := range inEachMode(of(16), of(40), of(end, six...), of(maxFile, six...)) {
		l = append(l, badNumbers(g)...)
		l = append(l, badSizes(g)...)
		l = append(l, badMaps(g)...)
	}
	for i, g := range l {
		if valid(g) {
			t.Fatalf("number %d of the generations that are not valid is valid: %v", i, brief(g))
		}
	}
	return l
}

// same reports whether two generations are equal, where nil and empty stripes are equivalent.
func same(a, b gen) bool {
	for s := range stripes {
		if !slices.Equal(a.Map.Stripes[s], b.Map.Stripes[s]) {
			return false
		}
		a.Map.Stripes[s], b.Map.Stripes[s] = nil, nil
	}
	return a.Num == b.Num && a.Rev == b.Rev && a.Mode == b.Mode && a.Size == b.Size && a.Map.Live == b.Map.Live && a.Map.Garbage == b.Map.Garbage
}

// brief returns the beginning of each stripe, for messages.
func brief(g gen) gen {
	for s, l := range g.Map.Stripes {
		g.Map.Stripes[s] = l[:min(len(l), 8)]
	}
	return g
}

// few returns the keys and lengths of the first needles, for messages.
func few(l []api.Needle) string {
	s := fmt.Sprint(len(l), " needles:")
	for _, x := range l[:min(len(l), 12)] {
		s += fmt.Sprintf(" %d (%v, %d bytes)", x.Key, x.Deleted, len(x.Data))
	}
	return s
}

// checkGen compares a result with what is wanted.
func checkGen(t *testing.T, what string, g gen, e api.Errno, want gen, wantE api.Errno) {
	t.Helper()
	if !same(g, want) || e != wantE {
		t.Errorf("%s: %v, %v, want %v, %v", what, brief(g), e, brief(want), wantE)
	}
	if e == api.OK && !generation.Valid(g) {
		t.Errorf("%s: %v is not valid", what, brief(g))
	}
}

// checkError checks that there is this error, and nothing else.
func checkError(t *testing.T, what string, g gen, e, want api.Errno) {
	t.Helper()
	checkGen(t, what, g, e, gen{}, want)
}

func checkAdd(t *testing.T, what string, g gen, l []api.Needle) {
	t.Helper()
	h, e := generation.Add(g, l)
	want, wantE := add(g, l)
	checkGen(t, fmt.Sprintf("%s: Add of %s to %v", what, few(l), brief(g)), h, e, want, wantE)
}

func checkKill(t *testing.T, what string, g gen, keys []uint64) {
	t.Helper()
	h, e := generation.Kill(g, keys)
	want, wantE := kill(g, keys)
	checkGen(t, fmt.Sprintf("%s: Kill of %v in %v", what, keys, brief(g)), h, e, want, wantE)
}

func checkSwap(t *testing.T, what string, g gen, rev, size int64, m nmap.Map) {
	t.Helper()
	h, e := generation.Swap(g, rev, size, m)
	want, wantE := swap(g, rev, size, m)
	checkGen(t, fmt.Sprintf("%s: Swap of %v, Rev %d, Size %d", what, brief(g), rev, size), h, e, want, wantE)
}

// checkModes compares Freeze and Seal.
func checkModes(t *testing.T, what string, g gen) {
	t.Helper()
	h, e := generation.Freeze(g)
	want, wantE := freeze(g)
	checkGen(t, fmt.Sprintf("%s: Freeze of %v", what, brief(g)), h, e, want, wantE)
	h, e = generation.Seal(g)
	want, wantE = seal(g)
	checkGen(t, fmt.Sprintf("%s: Seal of %v", what, brief(g)), h, e, want, wantE)
}

func checkValid(t *testing.T, what string, g gen, want bool) {
	t.Helper()
	if v := generation.Valid(g); v != want {
		t.Errorf("%s: Valid(%v) = %v, want %v", what, brief(g), v, want)
	}
}

// begin returns the bytes of a volume file without records.
func begin(t *testing.T, num int, rev int64) []byte {
	t.Helper()
	b, e := superblock.Encode(api.Super{Slot: 1, Gen: num, Rev: rev})
	if e != api.OK {
		t.Fatal(e)
	}
	return b
}

// appended returns b with the records of l behind it.
func appended(t *testing.T, b []byte, l []api.Needle) []byte {
	t.Helper()
	for _, x := range l {
		record, e := needle.Encode(x)
		if e != api.OK {
			t.Fatal(e)
		}
		b = append(b, record...)
	}
	return b
}
