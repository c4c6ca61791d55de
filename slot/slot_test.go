package slot_test

import (
	"fmt"
	"maps"
	"math"
	"math/rand"
	"slices"
	"testing"

	"needlestore/api"
	"needlestore/generation"
	"needlestore/nmap"
	"needlestore/slot"
)

// The chapter's examples.

func TestExamples(t *testing.T) {
	if a, b := slot.Route(5, 2), slot.Route(1<<32, 2); a != 1 || b != 1 {
		t.Errorf("Route: %d, %d", a, b)
	}
	s, e := slot.New(0, 4136)
	if p, ok := slot.Find(s, 5); e != api.OK || ok || p != (place{}) {
		t.Errorf("Find in a new slot: %v, %v, %v", p, ok, e)
	}
	if !slot.Fits(s, api.MaxPayload) {
		t.Error("MaxPayload does not fit in a new slot")
	}
}

// Promise 13.1.

func checkRoute(t *testing.T, key uint64, slots, want int) {
	t.Helper()
	if n := slot.Route(key, slots); n != want {
		t.Errorf("Route(%d, %d) = %d, want %d", key, slots, n, want)
	}
}

func TestRouteByHand(t *testing.T) {
	for _, x := range []struct {
		key         uint64
		slots, want int
	}{
		{0, 1, 0}, {0, 4, 0}, {1, 4, 1}, {6, 4, 2}, {7, 4, 3}, {1<<32 - 1, 4, 3}, {1<<32 - 1, 10, 5}, {1 << 32, 4, 1}, {1<<32 + 1, 4, 0}, {1<<32 + 2, 4, 3}, {5<<32 + 3, 4, 2}, {5<<32 + 3, 7, 6},
		{1<<64 - 1, 4, 0}, {1<<64 - 2, 4, 1}, {1<<64 - 1<<32, 4, 3}, {1<<64 - 1<<32, 1 << 32, 1<<32 - 1}, {1<<64 - 1<<32, 1<<32 - 1, 0}, {1 << 63, 3, 2}, {1 << 63, 1 << 31, 0}, {1 << 63, 1 << 32, 1 << 31}, {1 << 63, math.MaxInt, 1 << 31},
	} {
		checkRoute(t, x.key, x.slots, x.want)
	}
}

// edgeKeys are near to 0, to 2^32, to 2^64 and to others.
func edgeKeys() []uint64 {
	var l []uint64
	for d := range uint64(12) {
		for _, bits := range []int{8, 16, 31, 32, 33, 40, 48, 63} {
			l = append(l, 1<<bits+d, 1<<bits-d-1)
		}
		l = append(l, d, maxKey-d, d<<32|3, (1<<32-1-d)<<32, (1<<32-1)<<32|d, d<<32|d)
	}
	return l
}

func TestRoute(t *testing.T) {
	r := rand.New(rand.NewSource(1))
	keys := edgeKeys()
	for range 200 {
		keys = append(keys, r.Uint64()>>r.Intn(64))
	}
	numbers := []int{1, 2, 3, 4, 5, 7, 8, 10, 64, 100, 255, 256, 257, 65535, 65536, 65537, 1<<31 - 1, 1 << 31, 1<<31 + 1, 1<<32 - 1, 1 << 32, 1<<32 + 1, 1<<32 + 7, 1 << 33, 1<<40 + 1, 1 << 62, math.MaxInt - 1, math.MaxInt}
	for range 100 {
		numbers = append(numbers, 1+r.Intn(1<<(1+r.Intn(61))))
	}
	for _, key := range keys {
		for _, n := range numbers {
			checkRoute(t, key, n, route(key, n))
		}
	}
}

func TestRouteAmongNoSlots(t *testing.T) {
	for _, n := range []int{0, -1, -2, -3, -4, -100, -1 << 31, -1 << 32, -1<<32 - 1, -1 << 62, math.MinInt, math.MinInt + 1} {
		for _, key := range edgeKeys() {
			checkRoute(t, key, n, 0)
		}
	}
}

// Promise 13.2.

func TestValidSlots(t *testing.T) {
	for _, s := range goodSlots(rand.New(rand.NewSource(2))) {
		if !valid(s) {
			t.Fatalf("%s is not valid", brief(s))
		}
		checkValid(t, "a valid slot", s, true)
	}
}

func TestInvalidSlots(t *testing.T) {
	for _, s := range badSlots(t) {
		checkValid(t, "one condition broken", s, false)
	}
}

// Each list of ascending numbers, each of the generations in each mode, and the
// numbers in another order.
func TestValidOfEachListOfNumbers(t *testing.T) {
	for _, nums := range numbers() {
		s := chain(nums...)
		checkValid(t, "ascending numbers", s, true)
		for i, g := range s.Gens {
			for mode := -1; mode <= 4; mode++ {
				isLast := i == len(nums)-1
				checkValid(t, "each mode", exchanged(s, i, inMode(g, mode)), isLast && mode == writable || !isLast && (mode == frozen || mode == sealed))
			}
			for num := -1; num <= gens+1; num++ {
				g.Num = num
				fits := num >= 1 && num <= gens && (i == 0 || nums[i-1] < num) && (i == len(nums)-1 || num < nums[i+1])
				checkValid(t, "each number", exchanged(s, i, g), fits)
			}
		}
	}
}

// ID and Limit at, beside and far from their bounds.
func TestValidOfEachIDAndLimit(t *testing.T) {
	limits := append(farLimits(), minLimit-2, minLimit-1, minLimit, minLimit+1, minLimit+2, maxLimit-2, maxLimit-1, maxLimit, maxLimit+1, maxLimit+2)
	for _, id := range append(farNumbers(), -2, -1, 0, 1, 2, 3, 4, 5, 6) {
		for _, limit := range limits {
			for _, s := range []store{{Gens: []gen{of(1, writable, superSize)}}, chain(2, 4, 7)} {
				s.ID, s.Limit = id, limit
				checkValid(t, "ID and Limit", s, id >= 0 && id <= 3 && limit >= minLimit && limit <= maxLimit)
			}
		}
	}
}

// The file of each generation may have 2 * Limit bytes, and not 8 more; that of the
// last one only if it has no items.
func TestValidOfEachSize(t *testing.T) {
	for _, nums := range [][]int{{1}, {8}, {1, 2}, {3, 8}, {2, 5, 6}, {1, 2, 3, 4, 5, 6, 7, 8}} {
		for _, limit := range []int64{minLimit, minLimit + 1, minLimit + 2, minLimit + 3, minLimit + 4, minLimit + 5, minLimit + 6, minLimit + 7, maxLimit - 1, maxLimit} {
			s := chain(nums...)
			s.Limit = limit
			most := 2 * limit / 8 * 8
			for i, g := range s.Gens {
				some := nmap.Items(g.Map)
				for d := int64(-200); d <= 200; d += 8 {
					checkValid(t, "no items", exchanged(s, i, of(g.Num, g.Mode, most+d)), d <= 0)
					x := exchanged(s, i, of(g.Num, g.Mode, most+d, some...))
					checkValid(t, "some items", x, d <= 0 && (i < len(nums)-1 || d <= -tombstone*int64(len(some))))
				}
			}
		}
	}
}

// There is room for a tombstone of each item of the last generation, and of no
// other one.
func TestValidOfEachNumberOfItems(t *testing.T) {
	for n := range 160 {
		for _, limit := range []int64{minLimit, minLimit + 2, minLimit + 4, 4200} {
			l, end := laid(5, many(n), 0, 5)
			room := tombstone * int64(n)
			for d := int64(-16); d <= 24; d += 8 {
				size := 2*limit/8*8 - room + d
				if size < end {
					continue
				}
				alone := store{Limit: limit, Gens: []gen{of(5, writable, size, l...)}}
				checkValid(t, "the room for tombstones", alone, d <= 0)
				behind := store{Limit: limit, Gens: []gen{of(3, frozen, size, l...), of(5, writable, superSize)}}
				checkValid(t, "the same generation as an earlier one", behind, size <= 2*limit)
			}
		}
	}
}

func checkNew(t *testing.T, id int, limit int64) {
	t.Helper()
	s, e := slot.New(id, limit)
	want, wantE := newSlot(id, limit)
	checkSlot(t, fmt.Sprintf("New(%d, %d)", id, limit), s, e, want, wantE)
}

func TestNewByHand(t *testing.T) {
	s, e := slot.New(3, 4136)
	if e != api.OK || s.ID != 3 || s.Limit != 4136 || s.ReadOnly || len(s.Gens) != 1 {
		t.Fatalf("New: %s, %v", brief(s), e)
	}
	fresh, _ := generation.Fresh(1)
	if g, e := slot.Top(s); e != api.OK || !sameGen(g, fresh) {
		t.Errorf("Top of a new slot: %s, %v", briefGen(g), e)
	}
}

func TestNew(t *testing.T) {
	limits := append(farLimits(), minLimit-8, minLimit-1, minLimit, minLimit+1, 5000, maxLimit-1, maxLimit, maxLimit+1, maxLimit+8)
	for _, id := range append(farNumbers(), -2, -1, 0, 1, 2, 3, 4, 5) {
		for _, limit := range limits {
			checkNew(t, id, limit)
		}
	}
	for limit := int64(minLimit - 300); limit <= minLimit+300; limit++ {
		checkNew(t, 2, limit)
		checkNew(t, 1, limit-minLimit+maxLimit)
	}
}

func TestTop(t *testing.T) {
	for _, nums := range numbers() {
		s := chain(nums...)
		last := nums[len(nums)-1]
		if g, e := slot.Top(s); e != api.OK || !sameGen(g, s.Gens[len(nums)-1]) || g.Num != last {
			t.Errorf("Top(%s) = %s, %v", brief(s), briefGen(g), e)
		}
	}
}

// Promise 13.3.

// usedKeys returns keys of which most are in some slot of the tests.
func usedKeys() []uint64 {
	l := []uint64{100, 150, 200, 201, 299, 300, 301, 302, 303, maxKey, 1 << 32, 1 << 63}
	for n := range uint64(12) {
		l = append(l, n, maxKey-n, n*n*n, 2*n*n*n)
	}
	return l
}

func TestFindByHand(t *testing.T) {
	item := func(key, cookie, off, size int) api.Item {
		return api.Item{Key: uint64(key), Cookie: uint32(cookie), Off: int64(off), Size: size}
	}
	first := of(2, sealed, 400, item(5, 1, 16, 9), item(6, 1, 56, 0), item(7, 1, 80, 3), item(8, 1, 200, 4))
	second := of(4, frozen, 300, item(5, 2, 96, 1), item(6, 2, 40, 2))
	second.Size, second.Map.Garbage = 304, second.Map.Garbage+4
	third := of(7, writable, 200, item(5, 3, 16, 30), item(8, 3, 72, 0), item(9, 3, 96, 1))
	first.Rev, second.Rev, third.Rev = 11, 22, 33
	s := store{ID: 1, Limit: 5000, ReadOnly: true, Gens: []gen{first, second, third}}
	for _, x := range []struct {
		key   uint64
		want  place
		ok    bool
		older []int
	}{
		{5, place{Gen: 7, Mode: writable, Rev: 33, Item: item(5, 3, 16, 30)}, true, []int{2, 4}},
		{6, place{Gen: 4, Mode: frozen, Rev: 22, Item: item(6, 2, 40, 2)}, true, []int{2, 4}},
		{7, place{Gen: 2, Mode: sealed, Rev: 11, Item: item(7, 1, 80, 3)}, true, []int{2}},
		{8, place{Gen: 7, Mode: writable, Rev: 33, Item: item(8, 3, 72, 0)}, true, []int{2}},
		{9, place{Gen: 7, Mode: writable, Rev: 33, Item: item(9, 3, 96, 1)}, true, nil},
		{4, place{}, false, nil},
		{1<<32 + 5, place{}, false, nil},
	} {
		p, ok := slot.Find(s, x.key)
		if p != x.want || ok != x.ok {
			t.Errorf("Find(%d) = %v, %v", x.key, p, ok)
		}
		if l := slot.Older(s, x.key); !slices.Equal(l, x.older) {
			t.Errorf("Older(%d) = %v", x.key, l)
		}
	}
	want := []api.Item{item(5, 3, 16, 30), item(6, 2, 40, 2), item(7, 1, 80, 3), item(8, 3, 72, 0), item(9, 3, 96, 1)}
	if l := slot.Items(s); !slices.Equal(l, want) {
		t.Errorf("Items: %v", l)
	}
}

func TestFindInGoodSlots(t *testing.T) {
	r := rand.New(rand.NewSource(3))
	l := goodSlots(r)
	for n := range 300 {
		l = append(l, anySlot(r, n%20))
	}
	for _, s := range l {
		all := places(s)
		checkKeys(t, "a valid slot", s, all, usedKeys()...)
		checkItems(t, "a valid slot", s, all)
		for key := range all {
			checkKeys(t, "a key", s, all, key)
		}
	}
}

func TestFindInEachListOfNumbers(t *testing.T) {
	for _, nums := range numbers() {
		s := chain(nums...)
		all := places(s)
		checkKeys(t, "ascending numbers", s, all, usedKeys()...)
		checkItems(t, "ascending numbers", s, all)
	}
}

// spread returns a slot of so many generations, where each set of them has a key of
// its own: in all of the set, and in no other generation.
func spread(n int) (store, []uint64) {
	s := store{ID: 3, Limit: 6000}
	var all []uint64
	for set := range 1 << n {
		all = append(all, uint64(set)*0x9e3779b97f4a7c15)
	}
	for i := range n {
		var keys []uint64
		for set, key := range all {
			if set>>i&1 != 0 {
				keys = append(keys, key)
			}
		}
		if i%2 == 1 {
			slices.Reverse(keys)
		}
		l, end := laid(i+1, keys, i, 2*i)
		s.Gens = append(s.Gens, of(i+1+gens-n, modeAt(n-1-i), end+16, l...))
	}
	return s, all
}

func TestFindInEachSetOfGenerations(t *testing.T) {
	for n := 1; n <= gens; n++ {
		s, keys := spread(n)
		checkValid(t, "each set", s, true)
		all := places(s)
		checkKeys(t, "each set", s, all, keys...)
		checkItems(t, "each set", s, all)
		for set, key := range keys {
			if len(all[key]) > 0 != (set > 0) {
				t.Fatalf("set %b: %v", set, all[key])
			}
		}
	}
}

// Many items in two generations, with the same keys, with others, and with keys
// between those of the other generation.
func TestItemsOfManyKeys(t *testing.T) {
	for _, shift := range []uint64{0, 1, 0x10001 * 1000, 0x10001 * 4000} {
		first := many(4000)
		second := many(4000)
		for i := range second {
			second[i] += shift
		}
		a, end := laid(1, first, 0)
		b, _ := laid(2, second, 8)
		s := store{Limit: maxLimit, Gens: []gen{of(1, sealed, end, a...), of(2, writable, 200000, b...)}}
		all := places(s)
		if len(all) == 0 {
			t.Fatal("the slot is not valid")
		}
		checkItems(t, "many keys", s, all)
		checkKeys(t, "many keys", s, all, first[0], first[3999], second[0], second[3999], first[2000], second[2000], 5, maxKey)
	}
}

// Most of these slots have generations with the keys.
func TestInvalidSlotsHaveNoItems(t *testing.T) {
	for _, s := range badSlots(t) {
		for _, key := range []uint64{0, 1, 3, 5, 100, 200, 201, 300, maxKey - 1, maxKey - 8} {
			if p, ok := slot.Find(s, key); ok || p != (place{}) {
				t.Errorf("Find(%s, %d) = %v, %v", brief(s), key, p, ok)
			}
			if l := slot.Older(s, key); len(l) > 0 {
				t.Errorf("Older(%s, %d) = %v", brief(s), key, l)
			}
		}
		if l := slot.Items(s); len(l) > 0 {
			t.Errorf("Items(%s) = %v", brief(s), l)
		}
	}
}

// Promise 13.4.

func TestFitsByHand(t *testing.T) {
	s := store{Limit: 5000, Gens: []gen{of(1, frozen, 10000), of(2, writable, 4904)}}
	for n, want := range map[int]bool{-1: false, 0: true, 1: true, 64: true, 72: true, 73: false, 80: false, 4096: false, 4097: false, math.MinInt: false, math.MaxInt: false} {
		if slot.Fits(s, n) != want {
			t.Errorf("Fits of %d bytes is %v", n, !want)
		}
	}
}

// Each length, with Limit and with the end of the last file at each place that
// matters: exactly up to Limit, and beyond it by the least possible number.
func TestFitsOfEachLength(t *testing.T) {
	for n := -40; n <= maxPayload+40; n++ {
		for _, limit := range []int64{minLimit, minLimit + 1, minLimit + 7, 5000} {
			end := max((limit-length(max(n, 0)))/8*8, superSize)
			for _, d := range []int64{-8, 0, 8} {
				if end+d < superSize {
					continue
				}
				s := store{Limit: limit, Gens: []gen{of(3, writable, end+d)}}
				checkFits(t, "about Limit", s, n)
			}
		}
	}
	for _, n := range append(farNumbers(), maxPayload+1, maxPayload+8, -1, -8, -24) {
		checkFits(t, "far away", store{Limit: maxLimit, Gens: []gen{of(3, writable, superSize)}}, n)
	}
}

// The earlier generations, the items and ReadOnly do not matter; only Limit does,
// not the room that the tombstones have.
func TestFitsInOtherSlots(t *testing.T) {
	lengths := []int{-1, 0, 1, 8, 9, 100, 1000, maxPayload - 1, maxPayload, maxPayload + 1}
	for _, s := range goodSlots(rand.New(rand.NewSource(4))) {
		for _, n := range lengths {
			checkFits(t, "a valid slot", s, n)
			s.ReadOnly = !s.ReadOnly
			checkFits(t, "with another ReadOnly", s, n)
		}
	}
	l, end := laid(8, many(100), 0)
	for size := end; size <= 6000; size += 8 {
		for _, before := range [][]gen{nil, {of(4, sealed, 10000)}, {of(1, frozen, superSize), of(2, sealed, 10000, l...)}} {
			s := store{Limit: 5000, Gens: append(before, of(8, writable, size, l...))}
			for _, n := range lengths {
				checkFits(t, "behind others", s, n)
			}
		}
	}
	for _, s := range badSlots(t) {
		for _, n := range lengths {
			if slot.Fits(s, n) {
				t.Errorf("Fits(%s, %d)", brief(s), n)
			}
		}
	}
}

// Promises 13.4 and 13.5: CanRotate and Rotate.

func TestRotateByHand(t *testing.T) {
	old, last := with(2, sealed, 7, 9), with(5, writable, 9, 4)
	s := store{ID: 3, Limit: 5000, ReadOnly: true, Gens: []gen{old, last}}
	x, e := slot.Rotate(s)
	fresh, _ := generation.Fresh(6)
	checkSlot(t, "Rotate", x, e, store{ID: 3, Limit: 5000, ReadOnly: true, Gens: []gen{old, inMode(last, frozen), fresh}}, api.OK)
	if !slot.CanRotate(s) || !slot.CanRotate(x) {
		t.Error("CanRotate")
	}
	p, ok := slot.Find(x, 9)
	if !ok || p.Gen != 5 || p.Mode != frozen || !slices.Equal(slot.Older(x, 9), []int{2, 5}) {
		t.Errorf("Find: %v, %v", p, ok)
	}
}

// Each list of numbers: what counts is the number of the last generation, not how
// many there are.
func TestRotateOfEachListOfNumbers(t *testing.T) {
	full := 0
	for _, nums := range numbers() {
		s := chain(nums...)
		checkRotate(t, "ascending numbers", s)
		for slot.CanRotate(s) {
			before := len(s.Gens)
			next, e := slot.Rotate(s)
			if e != api.OK || len(next.Gens) != before+1 {
				t.Fatalf("Rotate(%s) = %s, %v", brief(s), brief(next), e)
			}
			s = next
			checkRotate(t, "again", s)
		}
		full++
		x, e := slot.Rotate(s)
		checkError(t, "Rotate of a full slot", x, e, api.ErrFull)
		if g, e := slot.Top(s); e != api.OK || g.Num != gens {
			t.Errorf("the last generation of %s is %s, %v", brief(s), briefGen(g), e)
		}
	}
	if full != 255 {
		t.Errorf("%d full slots", full)
	}
}

func TestRotateOfOtherSlots(t *testing.T) {
	r := rand.New(rand.NewSource(5))
	for _, s := range goodSlots(r) {
		checkRotate(t, "a valid slot", s)
		s.ReadOnly = !s.ReadOnly
		checkRotate(t, "with another ReadOnly", s)
	}
	for n := range 200 {
		checkRotate(t, "a random slot", anySlot(r, n%15))
	}
	for _, s := range badSlots(t) {
		x, e := slot.Rotate(s)
		checkError(t, "Rotate of a slot that is not valid", x, e, api.ErrArg)
		if slot.CanRotate(s) {
			t.Errorf("CanRotate(%s)", brief(s))
		}
	}
}

// A slot that is neither valid nor has a number left.
func TestOrderOfErrorsOfRotate(t *testing.T) {
	for set := range 4 {
		s, want := chain(3, 7), api.OK
		if set&1 != 0 {
			s, want = chain(3, 8), api.ErrFull
		}
		if set&2 != 0 {
			s.Limit, want = 0, api.ErrArg
		}
		x, e := slot.Rotate(s)
		if want == api.OK {
			checkRotate(t, "nothing wrong", s)
			continue
		}
		checkError(t, fmt.Sprintf("set %d", set), x, e, want)
	}
}

// Promise 13.5: Change.

// states returns states of the generation g, of which many cannot be in its place.
func states(g gen, limit int64) []gen {
	most := 2 * limit / 8 * 8
	some := nmap.Items(g.Map)
	room := tombstone * int64(len(some))
	l := []gen{g, of(g.Num, writable, superSize), of(g.Num, frozen, superSize), of(g.Num, sealed, superSize)}
	for _, mode := range []int{0, writable, frozen, sealed, 4} {
		l = append(l, inMode(g, mode), with(g.Num, mode, 5, 77, 100), of(g.Num, mode, most), of(g.Num, mode, most+8), of(g.Num, mode, most, some...), of(g.Num, mode, most-room, some...), of(g.Num, mode, most-room+8, some...))
	}
	for _, f := range []func() (gen, api.Errno){
		func() (gen, api.Errno) {
			return generation.Add(g, []api.Needle{{Key: 100, Deleted: true}, {Key: 42, Data: []byte("new")}})
		},
		func() (gen, api.Errno) { return generation.Kill(g, []uint64{100, uint64(g.Num)}) },
		func() (gen, api.Errno) { return generation.Freeze(g) },
		func() (gen, api.Errno) { return generation.Seal(g) },
		func() (gen, api.Errno) { return generation.Swap(g, g.Rev+1, superSize, nmap.New()) },
	} {
		if x, e := f(); e == api.OK {
			l = append(l, x)
		}
	}
	return l
}

func TestChangeByHand(t *testing.T) {
	a, b, c := with(2, sealed, 7, 9), with(3, frozen, 9, 1), with(6, writable, 9, 4)
	s := store{ID: 3, Limit: 5000, ReadOnly: true, Gens: []gen{a, b, c}}
	for _, x := range []struct {
		g    gen
		gens []gen
		e    api.Errno
	}{
		{with(2, frozen, 1), []gen{with(2, frozen, 1), b, c}, api.OK}, {with(3, sealed), []gen{a, with(3, sealed), c}, api.OK}, {with(6, writable, 9), []gen{a, b, with(6, writable, 9)}, api.OK}, {b, []gen{a, b, c}, api.OK},
		{with(1, sealed, 9), nil, api.ErrNone}, {with(4, frozen, 9), nil, api.ErrNone}, {with(7, writable, 9), nil, api.ErrNone}, {gen{}, nil, api.ErrNone}, {gen{Num: 9}, nil, api.ErrNone},
		{with(2, writable, 7), nil, api.ErrArg}, {with(3, writable), nil, api.ErrArg}, {with(6, frozen, 9, 4), nil, api.ErrArg}, {gen{Num: 2}, nil, api.ErrArg}, {of(2, sealed, 10008), nil, api.ErrArg}, {of(6, writable, 10008), nil, api.ErrArg},
	} {
		y, e := slot.Change(s, x.g)
		want := store{}
		if x.e == api.OK {
			want = store{ID: 3, Limit: 5000, ReadOnly: true, Gens: x.gens}
		}
		checkSlot(t, "Change to "+briefGen(x.g), y, e, want, x.e)
	}
}

func TestChangeOfEachGeneration(t *testing.T) {
	for _, s := range append(goodSlots(rand.New(rand.NewSource(6))), chain(2, 3, 5, 7, 8)) {
		for _, g := range s.Gens {
			for _, x := range states(g, s.Limit) {
				checkChange(t, "another state", s, x)
			}
			if nmap.Len(g.Map) == 0 {
				continue
			}
			for _, x := range spoiled(g) {
				y, e := slot.Change(s, x)
				checkError(t, "Change to a generation that is not valid", y, e, api.ErrArg)
			}
		}
	}
}

// Each list of numbers, and each number: valid generations and others, in each mode.
func TestChangeOfEachNumber(t *testing.T) {
	for _, nums := range numbers() {
		s := chain(nums...)
		for num := -1; num <= gens+2; num++ {
			for mode := writable; mode <= sealed; mode++ {
				g := with(max(num, 1), mode, 5, 100, uint64(max(num, 0)))
				g.Num = num
				checkChange(t, "each number", s, g)
			}
			checkChange(t, "each number", s, gen{Num: num})
		}
	}
}

func TestChangeOfNumbersFarAway(t *testing.T) {
	for _, s := range []store{chain(1), chain(1, 2, 3, 4, 5, 6, 7, 8), chain(2, 5)} {
		for _, num := range append(farNumbers(), 0, -1, 9, 10) {
			g := with(3, frozen, 5)
			g.Num = num
			x, e := slot.Change(s, g)
			checkError(t, "a number far away", x, e, api.ErrNone)
		}
	}
}

func TestChangeOfInvalidSlots(t *testing.T) {
	for _, s := range badSlots(t) {
		l := []gen{{}, with(3, frozen, 5), with(8, writable, 5), {Num: 2}}
		if len(s.Gens) > 0 {
			l = append(l, s.Gens[0], s.Gens[len(s.Gens)-1])
		}
		for _, g := range l {
			x, e := slot.Change(s, g)
			checkError(t, "Change of a slot that is not valid", x, e, api.ErrArg)
		}
	}
}

// A slot that is not valid does not become valid by a change.
func TestChangeDoesNotRepair(t *testing.T) {
	good := chain(1, 2, 3, 4)
	for i, g := range good.Gens {
		for _, x := range spoiled(g) {
			y, e := slot.Change(exchanged(good, i, x), g)
			checkError(t, "a repair", y, e, api.ErrArg)
		}
	}
}

// All that can be wrong, in each combination.
func TestOrderOfErrorsOfChange(t *testing.T) {
	for set := range 8 {
		s, g, want := chain(3, 5, 7), with(5, frozen, 9), api.OK
		if set&1 != 0 {
			g, want = inMode(g, writable), api.ErrArg
		}
		if set&2 != 0 {
			g.Num, want = 6, api.ErrNone
		}
		if set&4 != 0 {
			s.ID, want = 4, api.ErrArg
		}
		x, e := slot.Change(s, g)
		if want == api.OK {
			checkSlot(t, "nothing wrong", x, e, exchanged(s, 1, g), api.OK)
			continue
		}
		checkError(t, fmt.Sprintf("set %d", set), x, e, want)
	}
}

// Promise 13.6.

// removed returns s after a key has been removed from one of its generations: by a
// tombstone from the last one, and from the others without one.
func removed(t *testing.T, s store, num int, key uint64) store {
	t.Helper()
	i := slices.IndexFunc(s.Gens, func(g gen) bool { return g.Num == num })
	g, e := s.Gens[i], api.OK
	if g.Mode == writable {
		g, e = generation.Add(g, []api.Needle{{Key: key, Deleted: true}})
	} else {
		g, e = generation.Kill(g, []uint64{key})
	}
	s, f := slot.Change(s, g)
	if e != api.OK || f != api.OK {
		t.Fatalf("%d is not removed from %d: %v, %v", key, num, e, f)
	}
	return s
}

// checkRemoval removes a key from all generations in ascending order.
func checkRemoval(t *testing.T, s store, key uint64) {
	t.Helper()
	want, ok := slot.Find(s, key)
	nums := slot.Older(s, key)
	if want.Mode == writable {
		nums = append(nums, want.Gen)
	}
	for i, num := range nums {
		if p, found := slot.Find(s, key); !ok || !found || p != want || num > want.Gen {
			t.Fatalf("%d, before it is removed from %d: %v, %v, want %v", key, num, p, found, want)
		}
		s = removed(t, s, num, key)
		if l := slot.Older(s, key); !slices.Equal(l, slices.DeleteFunc(slices.Clone(nums[i+1:]), func(n int) bool { return n == want.Gen && want.Mode == writable })) {
			t.Fatalf("%d, removed from %v: Older is %v", key, nums[:i+1], l)
		}
	}
	if p, found := slot.Find(s, key); found {
		t.Errorf("%d, removed from %v: %v", key, nums, p)
	}
}

func TestRemovalInAscendingOrder(t *testing.T) {
	for n := 1; n <= gens; n++ {
		s, keys := spread(n)
		for _, key := range keys {
			checkRemoval(t, s, key)
		}
	}
	for _, nums := range numbers() {
		s := chain(nums...)
		for _, key := range []uint64{1, 2, 3, 5, 8, 100, 200, 201, 300, 301, 302, maxKey - 1, maxKey - 8} {
			checkRemoval(t, s, key)
		}
	}
}

// All keys of a slot, generation by generation: the current items of the keys that
// later ones have stay the same.
func TestRemovalOfAllKeys(t *testing.T) {
	s, keys := spread(gens)
	all := places(s)
	for i, g := range s.Gens {
		for _, x := range nmap.Items(g.Map) {
			s = removed(t, s, g.Num, x.Key)
			all[x.Key] = all[x.Key][1:]
		}
		for _, key := range keys {
			if len(all[key]) == 0 {
				delete(all, key)
			}
		}
		checkKeys(t, fmt.Sprintf("after %d generations", i+1), s, all, keys...)
		checkItems(t, fmt.Sprintf("after %d generations", i+1), s, all)
	}
	if len(slot.Items(s)) != 0 {
		t.Error("there are items left")
	}
}

// A slot in which there is just room for the tombstones takes them all.
func TestRoomForTombstones(t *testing.T) {
	for _, n := range []int{1, 2, 50, 150} {
		l, _ := laid(4, many(n), 3, 0)
		for _, spare := range []int64{0, 8, 16} {
			s := store{Limit: minLimit, Gens: []gen{of(3, frozen, 2*minLimit), of(4, writable, 2*minLimit-tombstone*int64(n)-spare, l...)}}
			checkValid(t, "just room", s, true)
			for _, x := range l {
				s = removed(t, s, 4, x.Key)
			}
			g, e := slot.Top(s)
			if e != api.OK || g.Size != 2*minLimit-spare || nmap.Len(g.Map) != 0 {
				t.Errorf("%d tombstones: %s, %v", n, briefGen(g), e)
			}
			g, e = generation.Add(g, []api.Needle{{Key: 1, Deleted: true}})
			if e != api.OK {
				t.Fatal(e)
			}
			x, e := slot.Change(s, g)
			checkError(t, "one tombstone more", x, e, api.ErrArg)
		}
	}
}

// plain is a generation as a plain map.
type plain struct {
	num, mode int
	rev, size int64
	items     map[uint64]api.Item
}

// beside is a slot, and a plain map for each of its generations.
type beside struct {
	s    store
	gens []plain
}

// begun returns a new slot with its plain map.
func begun(t *testing.T, r *rand.Rand) beside {
	t.Helper()
	s, e := slot.New(r.Intn(slots), minLimit+r.Int63n(3000))
	if e != api.OK {
		t.Fatal(e)
	}
	return beside{s: s, gens: []plain{{num: 1, mode: writable, size: superSize, items: map[uint64]api.Item{}}}}
}

// take makes g the new state of its generation.
func (b *beside) take(t *testing.T, g gen, e api.Errno) {
	t.Helper()
	s, f := slot.Change(b.s, g)
	if e != api.OK || f != api.OK {
		t.Fatalf("%s: %v, %v", briefGen(g), e, f)
	}
	b.s = s
}

// put adds a needle if it fits, and a generation if not and if there can be one.
func (b *beside) put(t *testing.T, key uint64, cookie uint32, n int) {
	t.Helper()
	last := &b.gens[len(b.gens)-1]
	fits := last.size+length(n) <= b.s.Limit
	if slot.Fits(b.s, n) != fits {
		t.Fatalf("%d bytes fit in %s: %v", n, brief(b.s), !fits)
	}
	if !fits {
		b.rotate(t)
		return
	}
	g, _ := slot.Top(b.s)
	g, e := generation.Add(g, []api.Needle{{Key: key, Cookie: cookie, Data: make([]byte, n)}})
	b.take(t, g, e)
	last.items[key] = api.Item{Key: key, Cookie: cookie, Off: last.size, Size: n}
	last.size += length(n)
}

func (b *beside) rotate(t *testing.T) {
	t.Helper()
	last := &b.gens[len(b.gens)-1]
	s, e := slot.Rotate(b.s)
	if last.num == gens {
		checkError(t, "Rotate of a full slot", s, e, api.ErrFull)
		return
	}
	if e != api.OK {
		t.Fatal(e)
	}
	last.mode = frozen
	b.s, b.gens = s, append(b.gens, plain{num: last.num + 1, mode: writable, size: superSize, items: map[uint64]api.Item{}})
}

// remove removes a key from one generation, if that has it.
func (b *beside) remove(t *testing.T, i int, key uint64) {
	t.Helper()
	g := &b.gens[i]
	if _, ok := g.items[key]; !ok {
		return
	}
	b.s = removed(t, b.s, g.num, key)
	delete(g.items, key)
	if g.mode == writable {
		g.size += tombstone
	}
}

// delete removes a key from all generations in ascending order.
func (b *beside) delete(t *testing.T, key uint64) {
	t.Helper()
	for i := range b.gens {
		b.remove(t, i, key)
		b.check(t, key)
	}
}

// seal makes a generation Sealed that is Frozen.
func (b *beside) seal(t *testing.T, i int) {
	t.Helper()
	if b.gens[i].mode == frozen {
		g, e := generation.Seal(b.s.Gens[i])
		b.take(t, g, e)
		b.gens[i].mode = sealed
	}
}

// compact exchanges the last generation for one with its live records alone.
func (b *beside) compact(t *testing.T) {
	t.Helper()
	last := &b.gens[len(b.gens)-1]
	size := int64(superSize)
	for _, key := range slices.Sorted(maps.Keys(last.items)) {
		x := last.items[key]
		x.Off = size
		last.items[key] = x
		size += length(x.Size)
	}
	last.rev, last.size = last.rev+1, size
	g, _ := slot.Top(b.s)
	g, e := generation.Swap(g, last.rev, size, nmap.From(slices.Collect(maps.Values(last.items)), 0))
	b.take(t, g, e)
}

// at returns the places of all keys.
func (b *beside) at() map[uint64][]place {
	all := map[uint64][]place{}
	for _, g := range b.gens {
		for key, x := range g.items {
			all[key] = append(all[key], place{Gen: g.num, Mode: g.mode, Rev: g.rev, Item: x})
		}
	}
	return all
}

// check compares the slot with the plain maps, for some keys.
func (b *beside) check(t *testing.T, keys ...uint64) {
	t.Helper()
	all := b.at()
	checkKeys(t, "a history", b.s, all, keys...)
	checkItems(t, "a history", b.s, all)
	last := b.gens[len(b.gens)-1]
	if g, e := slot.Top(b.s); e != api.OK || g.Num != last.num || g.Size != last.size || g.Rev != last.rev || len(b.s.Gens) != len(b.gens) {
		t.Fatalf("%s: the last generation is %s, %v, want %v", brief(b.s), briefGen(g), e, last)
	}
	if slot.CanRotate(b.s) != (last.num < gens) {
		t.Errorf("CanRotate(%s)", brief(b.s))
	}
}

// checkHistory does n random operations.
func checkHistory(t *testing.T, r *rand.Rand, n, keys, size int) {
	t.Helper()
	b := begun(t, r)
	for range n {
		key := uint64(r.Intn(keys)) << 32 >> r.Intn(2)
		i := r.Intn(len(b.gens))
		switch x := r.Intn(100); {
		case x < 65:
			b.put(t, key, r.Uint32(), r.Intn(size+1))
		case x < 75:
			b.delete(t, key)
		case x < 85:
			b.remove(t, i, key)
		case x < 90:
			b.seal(t, i)
		case x < 95:
			b.compact(t)
		case x < 97:
			b.rotate(t)
		}
		b.check(t, key, uint64(r.Intn(keys)))
	}
	for key := range uint64(keys) {
		b.check(t, key, key<<32, key<<31)
	}
	for key := range uint64(keys) {
		b.delete(t, key<<32)
		b.delete(t, key<<31)
	}
	if len(slot.Items(b.s)) != 0 {
		t.Errorf("%s has items", brief(b.s))
	}
}

func TestHistories(t *testing.T) {
	r := rand.New(rand.NewSource(7))
	for range 12 {
		checkHistory(t, r, 200, 1+r.Intn(20), 300)
		checkHistory(t, r, 200, 1+r.Intn(6), 40)
		checkHistory(t, r, 100, 1+r.Intn(40), maxPayload)
	}
	checkHistory(t, r, 500, 60, 100)
}

// Rules R2 to R4.

// guarded returns s with other elements before and behind its generations and its
// items in the same memory, and a function that reports whether this memory is
// still the same.
func guarded(s store) (store, func() bool) {
	var items, keptItems [][]api.Item
	memory := slices.Concat([]gen{with(1, sealed, 1)}, s.Gens, []gen{with(4, frozen, 2), with(6, writable, 3), with(7, frozen)})
	for i := range memory {
		for j, l := range memory[i].Map.Stripes {
			x := slices.Concat([]api.Item{{Key: 4, Off: 80}}, l, []api.Item{{Key: 6, Off: 16}, {Key: 7, Off: 24}})
			items, keptItems = append(items, x), append(keptItems, slices.Clone(x))
			memory[i].Map.Stripes[j] = x[1 : 1+len(l)]
		}
	}
	kept := copied(store{Gens: memory})
	s.Gens = memory[1 : 1+len(s.Gens)]
	return s, func() bool {
		return same(store{Gens: memory}, kept) && slices.EqualFunc(items, keptItems, slices.Equal[[]api.Item])
	}
}

// successors returns what Rotate and Change make of a slot, and asks all the rest.
func successors(s store) []store {
	var l []store
	take := func(s store, e api.Errno) {
		if e == api.OK {
			l = append(l, s)
		}
	}
	slot.Valid(s)
	slot.Find(s, 100)
	slot.Older(s, 100)
	slot.Items(s)
	slot.Fits(s, 5)
	slot.CanRotate(s)
	take(slot.Rotate(s))
	for i, g := range s.Gens[:min(len(s.Gens), gens)] {
		x, e := generation.Kill(g, []uint64{100, 5})
		if g.Mode == writable {
			x, e = generation.Add(g, []api.Needle{{Key: uint64(i), Data: []byte("new")}, {Key: 100, Deleted: true}})
		}
		if e == api.OK {
			take(slot.Change(s, x))
		}
		take(slot.Change(s, g))
	}
	return l
}

func TestSlotsStay(t *testing.T) {
	broken := badSlots(t)
	for i, s := range append(goodSlots(rand.New(rand.NewSource(8))), broken...) {
		before := copied(s)
		x, unchanged := guarded(s)
		slot.Top(x)
		for _, y := range successors(x) {
			if i%5 == 0 {
				for _, z := range successors(y) {
					slot.Rotate(z)
				}
			}
		}
		slot.Change(x, gen{Num: 2})
		slot.Change(x, with(3, writable, 9))
		if !unchanged() || !same(x, before) {
			t.Errorf("%s became %s", brief(before), brief(x))
		}
	}
}

// Each of the slots that were returned on the way is still what it was.
func TestEarlierSlotsStay(t *testing.T) {
	r := rand.New(rand.NewSource(9))
	first, _ := slot.New(1, 5000)
	l, kept := []store{first}, []store{copied(first)}
	for range 150 {
		for _, s := range successors(l[r.Intn(len(l))]) {
			l, kept = append(l, s), append(kept, copied(s))
		}
	}
	for i, s := range l {
		if !same(s, kept[i]) {
			t.Errorf("%s became %s", brief(kept[i]), brief(s))
		}
	}
}

// The generation that is passed to Change stays too.
func TestChangedGenerationsStay(t *testing.T) {
	s := chain(1, 3, 4)
	for _, g := range s.Gens {
		for _, x := range states(g, s.Limit) {
			y, unchanged := guarded(store{Gens: []gen{x}})
			slot.Change(s, y.Gens[0])
			if !unchanged() {
				t.Errorf("%s changed", briefGen(x))
			}
		}
	}
}

// The lists that are returned are new memory, up to their capacity: the generations
// of New, Rotate and Change, the items and the numbers.
func TestListsAreNewMemory(t *testing.T) {
	s := chain(1, 3, 4, 6)
	before := copied(s)
	for _, f := range []func() (store, api.Errno){
		func() (store, api.Errno) { return slot.New(1, 5000) },
		func() (store, api.Errno) { return slot.Rotate(s) },
		func() (store, api.Errno) { return slot.Change(s, s.Gens[1]) },
		func() (store, api.Errno) { return slot.Change(s, with(6, writable, 9)) },
	} {
		x, e := f()
		want := copied(x)
		clear(x.Gens[:cap(x.Gens)])
		if e != api.OK || !same(s, before) {
			t.Fatalf("%s became %s, %v", brief(before), brief(s), e)
		}
		x, e = f()
		checkSlot(t, "the same call again", x, e, want, api.OK)
	}
	for range 2 {
		x, nums := slot.Items(s), slot.Older(s, 100)
		if want := items(places(before)); !slices.Equal(x, want) || !slices.Equal(nums, []int{1, 3, 4}) {
			t.Errorf("Items %v, want %v; Older %v", x, want, nums)
		}
		clear(x[:cap(x)])
		clear(nums[:cap(nums)])
		if !same(s, before) {
			t.Errorf("%s became %s", brief(before), brief(s))
		}
	}
	// A slot of one generation, whose items could be those of its map.
	for _, keys := range [][]uint64{{5}, {0, 5}, {0, 5, 1}} {
		s, before := store{Limit: 5000, Gens: []gen{with(2, writable, keys...)}}, store{Limit: 5000, Gens: []gen{with(2, writable, keys...)}}
		x := slot.Items(s)
		clear(x[:cap(x)])
		if !same(s, before) {
			t.Errorf("%s became %s", brief(before), brief(s))
		}
	}
}

func TestEmptyAndNilStripesAreTheSame(t *testing.T) {
	for _, s := range goodSlots(rand.New(rand.NewSource(10))) {
		empty := copied(s)
		for i := range empty.Gens {
			for j, l := range empty.Gens[i].Map.Stripes {
				if len(l) == 0 {
					empty.Gens[i].Map.Stripes[j] = make([]api.Item, 0, 4)
				}
			}
		}
		checkAll(t, "empty stripes", empty, usedKeys()...)
		for _, g := range empty.Gens {
			checkChange(t, "empty stripes", s, g)
			checkChange(t, "empty stripes", empty, g)
		}
	}
}

func TestCallsLeaveNoTrace(t *testing.T) {
	bad := chain(2, 4, 5)
	bad.Gens[1].Size += 8
	l := append(goodSlots(rand.New(rand.NewSource(11))), bad, store{})
	for range 3 {
		for _, s := range l {
			checkAll(t, "again", s, 1, 5, 100, 0)
			checkChange(t, "again", s, with(4, frozen, 1))
			checkChange(t, "again", s, with(8, writable, 1))
		}
		checkNew(t, 1, 5000)
		checkNew(t, 4, 5000)
		checkRoute(t, 1<<32, 2, 1)
	}
}
