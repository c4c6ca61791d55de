package slot_test

import (
	"cmp"
	"fmt"
	"maps"
	"math"
	"math/big"
	"math/rand"
	"slices"
	"testing"

	"needlestore/api"
	"needlestore/generation"
	"needlestore/nmap"
	"needlestore/slot"
)

// This file has the chapter word for word, and the generations and slots on which
// the program is compared with it. The numbers are written out, so that changed
// constants are noticed. The functions of the packages below are used as they are.

const (
	writable, frozen, sealed = 1, 2, 3

	slots      = 4
	gens       = 8
	stripes    = 8
	superSize  = 16
	tombstone  = 24
	maxPayload = 4096
	minLimit   = 4136
	maxLimit   = 262144
	maxFile    = 1048576
	maxRev     = 4294967295
	maxKey     = math.MaxUint64
)

type (
	store = slot.Slot
	place = slot.Place
	gen   = generation.Gen
)

// route is 13.1 word for word.
func route(key uint64, slots int) int {
	if slots < 1 {
		return 0
	}
	k, half := new(big.Int).SetUint64(key), new(big.Int).Lsh(big.NewInt(1), 32)
	rest, whole := new(big.Int).Mod(k, half), new(big.Int).Div(k, half)
	both := new(big.Int).Xor(rest, whole)
	return int(both.Mod(both, big.NewInt(int64(slots))).Int64())
}

// valid is the first sentence of 13.2 word for word.
func valid(s store) bool {
	if s.ID < 0 || s.ID > 3 || s.Limit < minLimit || s.Limit > maxLimit || len(s.Gens) < 1 || len(s.Gens) > 8 {
		return false
	}
	for i, g := range s.Gens {
		isLast := i == len(s.Gens)-1
		switch {
		case !generation.Valid(g), isLast && g.Mode != writable, !isLast && g.Mode == writable, g.Size > 2*s.Limit:
			return false
		}
		for _, before := range s.Gens[:i] {
			if before.Num >= g.Num {
				return false
			}
		}
	}
	last := s.Gens[len(s.Gens)-1]
	return last.Size+tombstone*int64(len(nmap.Items(last.Map))) <= 2*s.Limit
}

// newSlot and top are the last two sentences of 13.2 word for word.

func newSlot(id int, limit int64) (store, api.Errno) {
	s := store{ID: id, Limit: limit, Gens: []gen{{Num: 1, Mode: writable, Size: superSize}}}
	if !valid(s) {
		return store{}, api.ErrArg
	}
	return s, api.OK
}

func top(s store) (gen, api.Errno) {
	if !valid(s) {
		return gen{}, api.ErrArg
	}
	return s.Gens[len(s.Gens)-1], api.OK
}

// places returns the places of each key, in the order of the generations.
func places(s store) map[uint64][]place {
	all := map[uint64][]place{}
	if !valid(s) {
		return all
	}
	for _, g := range s.Gens {
		for _, x := range nmap.Items(g.Map) {
			all[x.Key] = append(all[x.Key], place{Gen: g.Num, Mode: g.Mode, Rev: g.Rev, Item: x})
		}
	}
	return all
}

// find, older and items are 13.3 word for word. They are told the places of the key,
// or of all keys.

func find(l []place) (place, bool) {
	if len(l) == 0 {
		return place{}, false
	}
	return l[len(l)-1], true
}

func older(l []place) []int {
	var nums []int
	for _, p := range l {
		if p.Mode != writable {
			nums = append(nums, p.Gen)
		}
	}
	return nums
}

func items(all map[uint64][]place) []api.Item {
	var l []api.Item
	for _, key := range slices.Sorted(maps.Keys(all)) {
		p, _ := find(all[key])
		l = append(l, p.Item)
	}
	return l
}

// fits and canRotate are 13.4 word for word.

func fits(s store, n int) bool {
	if !valid(s) || n < 0 || n > maxPayload {
		return false
	}
	return s.Gens[len(s.Gens)-1].Size+length(n) <= s.Limit
}

func canRotate(s store) bool { return valid(s) && s.Gens[len(s.Gens)-1].Num < 8 }

// rotate and change are 13.5 word for word.

func rotate(s store) (store, api.Errno) {
	if !valid(s) {
		return store{}, api.ErrArg
	}
	if !canRotate(s) {
		return store{}, api.ErrFull
	}
	var l []gen
	for _, g := range s.Gens {
		if g.Mode == writable {
			g.Mode = frozen
		}
		l = append(l, g)
	}
	s.Gens = append(l, gen{Num: l[len(l)-1].Num + 1, Mode: writable, Size: superSize})
	return s, api.OK
}

func change(s store, g gen) (store, api.Errno) {
	if !valid(s) {
		return store{}, api.ErrArg
	}
	var l []gen
	found := false
	for _, x := range s.Gens {
		if x.Num == g.Num {
			x, found = g, true
		}
		l = append(l, x)
	}
	if !found {
		return store{}, api.ErrNone
	}
	s.Gens = l
	if !valid(s) {
		return store{}, api.ErrArg
	}
	return s, api.OK
}

// length is the length of the record of a needle with n bytes of data: header,
// data and checksum, and then bytes up to a multiple of 8.
func length(n int) int64 {
	sum := int64(20 + n + 4)
	for sum%8 != 0 {
		sum++
	}
	return sum
}

// of returns a generation with these items, in a file in which garbage is the rest.
// Each number and mode has revisions of its own.
func of(num, mode int, size int64, l ...api.Item) gen {
	m := nmap.From(l, 0)
	if len(l) > 0 && nmap.Len(m) == 0 {
		panic("an item is not valid")
	}
	m.Garbage = size - superSize - m.Live
	return gen{Num: num, Rev: int64(100*num + mode), Mode: mode, Size: size, Map: m}
}

// laid returns items with these keys and sizes, each behind the record of the one
// before, the first one behind the superblock, and the end of the last one. Each
// cookie says which generation the item is of.
func laid(num int, keys []uint64, sizes ...int) ([]api.Item, int64) {
	off := int64(superSize)
	var l []api.Item
	for i, key := range keys {
		x := api.Item{Key: key, Cookie: uint32(num), Off: off, Size: sizes[i%len(sizes)]}
		l = append(l, x)
		off += length(x.Size)
	}
	return l, off
}

// with returns a generation with these keys and with some garbage.
func with(num, mode int, keys ...uint64) gen {
	l, end := laid(num, keys, num, 3*num, 0)
	return of(num, mode, end+int64(8*num), l...)
}

// many returns n keys.
func many(n int) []uint64 {
	var l []uint64
	for i := range uint64(n) {
		l = append(l, i*0x10001)
	}
	return l
}

// modeAt returns a mode that a generation may have at a place behind which there
// are so many others.
func modeAt(behind int) int {
	switch {
	case behind == 0:
		return writable
	case behind%2 == 1:
		return frozen
	}
	return sealed
}

// chain returns a slot whose generations have these numbers, and a few keys each.
// Some keys are in several of them.
func chain(nums ...int) store {
	s := store{ID: len(nums) % slots, Limit: 5000}
	for i, num := range nums {
		n := uint64(num)
		s.Gens = append(s.Gens, with(num, modeAt(len(nums)-1-i), n, n+1, 100, 200+n%2, 300+n/4, maxKey-n))
	}
	return s
}

// numbers returns all lists of ascending numbers that generations can have.
func numbers() [][]int {
	var all [][]int
	for set := 1; set < 1<<gens; set++ {
		var l []int
		for i := range gens {
			if set>>i&1 != 0 {
				l = append(l, i+1)
			}
		}
		all = append(all, l)
	}
	return all
}

// anySlot returns a valid slot with at most n items in each generation.
func anySlot(r *rand.Rand, n int) store {
	all := numbers()
	nums := all[r.Intn(len(all))]
	s := store{ID: r.Intn(slots), Limit: minLimit + r.Int63n(2000), ReadOnly: r.Intn(2) == 0}
	for i, num := range nums {
		var keys []uint64
		for key := range uint64(n) {
			if r.Intn(2) == 0 {
				keys = append(keys, key*key*key<<r.Intn(2))
			}
		}
		slices.Sort(keys)
		keys = slices.Compact(keys)
		r.Shuffle(len(keys), func(i, j int) { keys[i], keys[j] = keys[j], keys[i] })
		s.Gens = append(s.Gens, with(num, modeAt((len(nums)-1-i)*(1+r.Intn(2))), keys...))
	}
	if !valid(s) {
		panic("a random slot is not valid")
	}
	return s
}

// goodSlots returns valid slots: of one generation and of several, with and without
// items, with numbers at their bounds.
func goodSlots(r *rand.Rand) []store {
	var l []store
	for id := range slots {
		for _, limit := range []int64{minLimit, minLimit + 1, 5000, 5003, maxLimit - 1, maxLimit} {
			l = append(l, store{ID: id, Limit: limit, ReadOnly: id%2 == 1, Gens: []gen{of(1+id, writable, superSize)}})
		}
	}
	full, end := laid(3, many(100), 20, 0)
	for _, limit := range []int64{minLimit, minLimit + 4, 6000} {
		most := 2 * limit / 8 * 8
		last := of(8, writable, most-2400, full...)
		l = append(l,
			store{ID: 1, Limit: limit, Gens: []gen{last}},
			store{ID: 2, Limit: limit, Gens: []gen{of(3, sealed, most, full...), last}},
			store{ID: 3, Limit: limit, ReadOnly: true, Gens: []gen{of(1, frozen, most), of(3, frozen, end, full...), of(4, sealed, most, full...), of(5, writable, most)}},
		)
	}
	for n := range 12 {
		l = append(l, anySlot(r, n))
	}
	return append(l, chain(1), chain(8), chain(1, 2), chain(7, 8), chain(1, 8), chain(2, 4, 7), chain(1, 2, 3, 4, 5, 6, 7, 8))
}

// farNumbers are far from all bounds; modulo 2^8, 2^16 or 2^32 most of them are near.
func farNumbers() []int {
	l := []int{math.MinInt, math.MinInt + 1, math.MaxInt, math.MaxInt - 1, -100, -10, 100}
	for _, bits := range []int{8, 16, 31, 32, 62} {
		for d := range 6 {
			l = append(l, 1<<bits+d, -1<<bits+d)
		}
	}
	return l
}

// farLimits are far from all bounds; twice most of them, modulo 2^64, is near.
func farLimits() []int64 {
	l := []int64{0, -1, 8, 16, 1000, -minLimit, -5000, maxFile / 2, maxFile, 1 << 32, 1 << 40, math.MinInt64, math.MinInt64 + 1, math.MaxInt64, math.MaxInt64 - 1}
	for _, bits := range []int{32, 62, 63} {
		for _, d := range []int64{16, minLimit, 5000, maxLimit} {
			l = append(l, 1<<(bits-1)*2+d, -1<<bits+d, 1<<bits-1-d)
		}
	}
	return l
}

// copied returns s in memory of its own.
func copied(s store) store {
	s.Gens = slices.Clone(s.Gens)
	for i := range s.Gens {
		for j, l := range s.Gens[i].Map.Stripes {
			s.Gens[i].Map.Stripes[j] = slices.Clone(l)
		}
	}
	return s
}

// changed returns a copy of s with one change.
func changed(s store, f func(s *store)) store {
	s = copied(s)
	f(&s)
	return s
}

// exchanged returns s with another generation at a place.
func exchanged(s store, i int, g gen) store {
	return changed(s, func(s *store) { s.Gens[i] = g })
}

// inMode returns g with another mode.
func inMode(g gen, mode int) gen {
	g.Mode = mode
	return g
}

// spoiled returns g, which must have an item, with one change each, so that it is
// no valid generation. Its number stays.
func spoiled(g gen) []gen {
	var l []gen
	add := func(f func(g *gen)) {
		x := copied(store{Gens: []gen{g}}).Gens[0]
		f(&x)
		l = append(l, x)
	}
	add(func(g *gen) { g.Rev = -1 })
	add(func(g *gen) { g.Rev = maxRev + 1 })
	if g.Mode != writable {
		add(func(g *gen) { g.Mode = 0 })
		add(func(g *gen) { g.Mode = 4 })
		add(func(g *gen) { g.Mode = -1 })
	}
	add(func(g *gen) { g.Size = 0 })
	add(func(g *gen) { g.Size -= 8 })
	add(func(g *gen) { g.Size += 8 })
	add(func(g *gen) { g.Size, g.Map.Garbage = g.Size+4, g.Map.Garbage+4 })
	add(func(g *gen) { g.Map.Live, g.Map.Garbage = g.Map.Live+8, g.Map.Garbage-8 })
	add(func(g *gen) { g.Map = nmap.New() })
	s := slices.IndexFunc(g.Map.Stripes[:], func(l []api.Item) bool { return len(l) > 0 })
	add(func(g *gen) { g.Map.Stripes[s][0].Off = g.Size })
	add(func(g *gen) { g.Map.Stripes[s][0].Off++ })
	add(func(g *gen) { g.Map.Stripes[s][0].Size = -1 })
	add(func(g *gen) { g.Map.Stripes[s], g.Map.Stripes[(s+1)%stripes] = nil, g.Map.Stripes[s] })
	return l
}

// badNumbers returns s with other IDs and limits that are not valid.
func badNumbers(s store) []store {
	var l []store
	for _, id := range append(farNumbers(), -1, -2, slots, slots+1) {
		l = append(l, changed(s, func(s *store) { s.ID = id }))
	}
	for _, limit := range append(farLimits(), minLimit-1, minLimit-8, maxLimit+1, maxLimit+8) {
		l = append(l, changed(s, func(s *store) { s.Limit = limit }))
	}
	return l
}

// badOrders returns s with generations at other places.
func badOrders(s store) []store {
	l := []store{changed(s, func(s *store) { s.Gens = nil }), changed(s, func(s *store) { s.Gens = []gen{} })}
	for i, g := range s.Gens {
		l = append(l, changed(s, func(s *store) { s.Gens = slices.Insert(s.Gens, i, g) }))
		for j, h := range s.Gens[:i] {
			moved, equal := g, g
			moved.Num, equal.Num = h.Num, h.Num
			l = append(l, exchanged(exchanged(s, j, inMode(g, h.Mode)), i, inMode(h, g.Mode)), exchanged(s, i, equal))
			h.Num = g.Num
			l = append(l, exchanged(s, j, h), exchanged(exchanged(s, j, h), i, moved))
		}
	}
	return l
}

// badGens returns s with one generation that cannot be at its place.
func badGens(s store) []store {
	var l []store
	last := len(s.Gens) - 1
	for i, g := range s.Gens {
		for _, x := range spoiled(g) {
			l = append(l, exchanged(s, i, x))
		}
		if i < last {
			l = append(l, exchanged(s, i, inMode(g, writable)))
		} else {
			l = append(l, exchanged(s, i, inMode(g, frozen)), exchanged(s, i, inMode(g, sealed)))
		}
		most := 2 * s.Limit / 8 * 8
		for _, more := range []int64{8, 16, 24, 800, maxFile - most} {
			l = append(l, exchanged(s, i, of(g.Num, g.Mode, most+more)), exchanged(s, i, of(g.Num, g.Mode, most+more, nmap.Items(g.Map)...)))
		}
		if i == last {
			some := nmap.Items(g.Map)
			l = append(l, exchanged(s, i, of(g.Num, g.Mode, most-tombstone*int64(len(some))+8, some...)), exchanged(s, i, of(g.Num, g.Mode, most, some...)))
		}
	}
	for _, num := range []int{0, -1, -8, math.MinInt} {
		l = append(l, changed(s, func(s *store) { s.Gens[0].Num = num }))
	}
	for _, num := range []int{9, 10, 257, 1<<32 + 8, math.MaxInt} {
		l = append(l, changed(s, func(s *store) { s.Gens[last].Num = num }))
	}
	return append(l, changed(s, func(s *store) { s.Gens = s.Gens[:last] }))
}

// tooMany returns slots with more than the greatest number of generations.
func tooMany() []store {
	all := chain(1, 2, 3, 4, 5, 6, 7, 8)
	before, behind := with(0, sealed, 5), with(9, writable, 5)
	frozenLast := exchanged(all, gens-1, inMode(all.Gens[gens-1], frozen))
	l := []store{
		changed(all, func(s *store) { s.Gens = slices.Insert(s.Gens, 0, before) }),
		changed(frozenLast, func(s *store) { s.Gens = append(s.Gens, behind) }),
	}
	for _, n := range []int{9, 16, 1000} {
		l = append(l, changed(all, func(s *store) {
			for len(s.Gens) < n {
				s.Gens = slices.Insert(s.Gens, 0, s.Gens[0])
			}
		}))
	}
	return l
}

// badSlots returns slots that are not valid. Nearly all of them break one condition
// and no other, where this is possible.
func badSlots(t *testing.T) []store {
	t.Helper()
	l := append(tooMany(), store{}, store{Limit: 5000}, store{Gens: []gen{of(1, writable, superSize)}})
	for _, s := range []store{chain(1), chain(8), chain(3, 5), chain(1, 2, 3), chain(1, 2, 3, 4, 5, 6, 7, 8)} {
		for _, readOnly := range []bool{false, true} {
			s.ReadOnly = readOnly
			l = append(l, badNumbers(s)...)
			l = append(l, badOrders(s)...)
			l = append(l, badGens(s)...)
		}
	}
	for i, s := range l {
		if valid(s) {
			t.Fatalf("number %d of the slots that are not valid is valid: %v", i, brief(s))
		}
	}
	return l
}

// sameGen reports whether two generations are equal, where nil and empty stripes
// are equivalent.
func sameGen(a, b gen) bool {
	for s := range stripes {
		if !slices.Equal(a.Map.Stripes[s], b.Map.Stripes[s]) {
			return false
		}
	}
	return a.Num == b.Num && a.Rev == b.Rev && a.Mode == b.Mode && a.Size == b.Size && a.Map.Live == b.Map.Live && a.Map.Garbage == b.Map.Garbage
}

// same reports whether two slots are equal.
func same(a, b store) bool {
	return a.ID == b.ID && a.Limit == b.Limit && a.ReadOnly == b.ReadOnly && slices.EqualFunc(a.Gens, b.Gens, sameGen)
}

// brief returns what a slot is, for messages.
func brief(s store) string {
	text := fmt.Sprintf("slot %d, Limit %d, ReadOnly %v:", s.ID, s.Limit, s.ReadOnly)
	for _, g := range s.Gens[:min(len(s.Gens), 10)] {
		text += " " + briefGen(g)
	}
	return text
}

// briefGen returns what a generation is, for messages.
func briefGen(g gen) string {
	var keys []uint64
	for _, l := range g.Map.Stripes {
		for _, x := range l {
			keys = append(keys, x.Key)
		}
	}
	return fmt.Sprintf("{%d, mode %d, Rev %d, Size %d, %d keys %v, Live %d, Garbage %d}", g.Num, g.Mode, g.Rev, g.Size, len(keys), keys[:min(len(keys), 6)], g.Map.Live, g.Map.Garbage)
}

// checkSlot compares a result with what is wanted.
func checkSlot(t *testing.T, what string, s store, e api.Errno, want store, wantE api.Errno) {
	t.Helper()
	if !same(s, want) || e != wantE {
		t.Errorf("%s: %s, %v, want %s, %v", what, brief(s), e, brief(want), wantE)
	}
	if e == api.OK && !slot.Valid(s) {
		t.Errorf("%s: %s is not valid", what, brief(s))
	}
}

// checkError checks that there is this error, and nothing else.
func checkError(t *testing.T, what string, s store, e, want api.Errno) {
	t.Helper()
	checkSlot(t, what, s, e, store{}, want)
}

// checkValid compares Valid, and Top with it.
func checkValid(t *testing.T, what string, s store, want bool) {
	t.Helper()
	if v := slot.Valid(s); v != want {
		t.Errorf("%s: Valid(%s) = %v, want %v", what, brief(s), v, want)
	}
	g, e := slot.Top(s)
	wantG, wantE := top(s)
	if !sameGen(g, wantG) || e != wantE {
		t.Errorf("%s: Top(%s) = %v, %v, want %v, %v", what, brief(s), briefGen(g), e, briefGen(wantG), wantE)
	}
}

// checkKeys compares Find and Older of keys with the places of all keys.
func checkKeys(t *testing.T, what string, s store, all map[uint64][]place, keys ...uint64) {
	t.Helper()
	for _, key := range keys {
		p, ok := slot.Find(s, key)
		if want, wantOK := find(all[key]); p != want || ok != wantOK {
			t.Errorf("%s: Find(%s, %d) = %v, %v, want %v, %v", what, brief(s), key, p, ok, want, wantOK)
		}
		l := slot.Older(s, key)
		if want := older(all[key]); !slices.Equal(l, want) {
			t.Errorf("%s: Older(%s, %d) = %v, want %v", what, brief(s), key, l, want)
		}
	}
}

// checkItems compares Items with the places of all keys.
func checkItems(t *testing.T, what string, s store, all map[uint64][]place) {
	t.Helper()
	l, want := slot.Items(s), items(all)
	if !slices.Equal(l, want) {
		t.Errorf("%s: Items(%s) = %v, want %v", what, brief(s), l[:min(len(l), 12)], want[:min(len(want), 12)])
	}
	if !slices.IsSortedFunc(l, func(x, y api.Item) int { return cmp.Compare(x.Key, y.Key) }) {
		t.Errorf("%s: Items(%s) are not in order", what, brief(s))
	}
}

func checkFits(t *testing.T, what string, s store, n int) {
	t.Helper()
	if v, want := slot.Fits(s, n), fits(s, n); v != want {
		t.Errorf("%s: Fits(%s, %d) = %v, want %v", what, brief(s), n, v, want)
	}
}

// checkRotate compares CanRotate and Rotate.
func checkRotate(t *testing.T, what string, s store) {
	t.Helper()
	if v, want := slot.CanRotate(s), canRotate(s); v != want {
		t.Errorf("%s: CanRotate(%s) = %v, want %v", what, brief(s), v, want)
	}
	x, e := slot.Rotate(s)
	want, wantE := rotate(s)
	checkSlot(t, what+": Rotate of "+brief(s), x, e, want, wantE)
}

func checkChange(t *testing.T, what string, s store, g gen) {
	t.Helper()
	x, e := slot.Change(s, g)
	want, wantE := change(s, g)
	checkSlot(t, what+": Change of "+brief(s)+" to "+briefGen(g), x, e, want, wantE)
}

// checkAll compares everything that is asked of a slot.
func checkAll(t *testing.T, what string, s store, keys ...uint64) {
	t.Helper()
	all := places(s)
	checkValid(t, what, s, valid(s))
	checkKeys(t, what, s, all, keys...)
	checkItems(t, what, s, all)
	for _, n := range []int{-1, 0, 1, 72, 1000, maxPayload, maxPayload + 1} {
		checkFits(t, what, s, n)
	}
	checkRotate(t, what, s)
}
