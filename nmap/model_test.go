package nmap_test

import (
	"maps"
	"math"
	"math/big"
	"math/rand"
	"slices"
	"testing"

	"needlestore/api"
	"needlestore/nmap"
)

// This file has the chapter word for word, on a plain map from keys to items, and
// the maps and items on which the program is compared with it. The numbers are
// written out, so that changed constants are noticed.

const (
	stripes    = 8
	factor     = 0x9e3779b97f4a7c15
	maxGarbage = 1099511627776
	minOff     = 16
	maxOff     = 1048576
	maxSize    = 4096
	maxKey     = math.MaxUint64
)

// stripe is the number of 11.1 word for word.
func stripe(key uint64) int {
	product := new(big.Int).SetUint64(key)
	product.Mul(product, new(big.Int).SetUint64(factor))
	product.Mod(product, new(big.Int).Lsh(big.NewInt(1), 64))
	return int(product.Div(product, new(big.Int).Lsh(big.NewInt(1), 61)).Int64())
}

// keyWith returns the key whose product with the factor is this number, modulo
// 2^64. Each step doubles the number of bits in which the inverse is right.
func keyWith(product uint64) uint64 {
	inverse := uint64(1)
	for range 6 {
		inverse *= 2 - factor*inverse
	}
	return product * inverse
}

// length is the length of the record of an item with a valid Size: header, data
// and checksum, and then bytes up to a multiple of 8.
func length(x api.Item) int64 {
	n := 20 + x.Size + 4
	for n%8 != 0 {
		n++
	}
	return int64(n)
}

// good is 8.1 word for word, for one item.
func good(x api.Item) bool {
	return x.Off >= minOff && x.Off <= maxOff && x.Off%8 == 0 && x.Size >= 0 && x.Size <= maxSize
}

// valid is 11.1 word for word.
func valid(m nmap.Map) bool {
	var live int64
	for s, l := range m.Stripes {
		for i, x := range l {
			if !good(x) || i > 0 && l[i-1].Key >= x.Key || stripe(x.Key) != s {
				return false
			}
			live += length(x)
		}
	}
	return m.Live == live && m.Garbage >= 0 && m.Garbage <= maxGarbage
}

// table returns the items of a map by their keys.
func table(m nmap.Map) map[uint64]api.Item {
	items := map[uint64]api.Item{}
	for _, l := range m.Stripes {
		for _, x := range l {
			items[x.Key] = x
		}
	}
	return items
}

// list returns the items in ascending order of keys.
func list(items map[uint64]api.Item) []api.Item {
	var l []api.Item
	for _, key := range slices.Sorted(maps.Keys(items)) {
		l = append(l, items[key])
	}
	return l
}

// build returns the map with these items. It is valid, if they are.
func build(items map[uint64]api.Item, garbage int64) nmap.Map {
	m := nmap.Map{Garbage: garbage}
	for _, x := range list(items) {
		s := stripe(x.Key)
		m.Stripes[s] = append(m.Stripes[s], x)
		m.Live += length(x)
	}
	return m
}

// of returns the map with these items, all of them with different keys.
func of(garbage int64, l ...api.Item) nmap.Map {
	items := map[uint64]api.Item{}
	for _, x := range l {
		items[x.Key] = x
	}
	return build(items, garbage)
}

// put, remove, waste, from and itemsOf are 11.2 and 11.3 word for word.

func put(m nmap.Map, x api.Item) nmap.Map {
	if !valid(m) || !good(x) {
		return m
	}
	items, garbage := table(m), m.Garbage
	if old, ok := items[x.Key]; ok {
		garbage += length(old)
	}
	items[x.Key] = x
	if garbage > maxGarbage {
		return m
	}
	return build(items, garbage)
}

func remove(m nmap.Map, key uint64) nmap.Map {
	items, garbage := table(m), m.Garbage
	old, ok := items[key]
	if !valid(m) || !ok || garbage+length(old) > maxGarbage {
		return m
	}
	delete(items, key)
	return build(items, garbage+length(old))
}

func waste(m nmap.Map, n int64) nmap.Map {
	if !valid(m) || n < 0 || n > maxGarbage-m.Garbage {
		return m
	}
	m.Garbage += n
	return m
}

func from(l []api.Item, garbage int64) nmap.Map {
	items := map[uint64]api.Item{}
	for _, x := range l {
		if !good(x) {
			return nmap.Map{}
		}
		items[x.Key] = x
	}
	if garbage < 0 || garbage > maxGarbage {
		return nmap.Map{}
	}
	return build(items, garbage)
}

func itemsOf(m nmap.Map) []api.Item {
	if !valid(m) {
		return nil
	}
	return list(table(m))
}

// item returns a valid item; items with other numbers n are different, and their
// records have different lengths, as long as n is small.
func item(key uint64, n int) api.Item {
	return api.Item{Key: key, Cookie: uint32(n) + 1000, Off: minOff + 8*int64(n), Size: 8 * n % (maxSize + 1)}
}

// anyItem returns one of all valid items with this key.
func anyItem(r *rand.Rand, key uint64) api.Item {
	off := int64(minOff + 8*r.Intn((maxOff-minOff)/8+1))
	return api.Item{Key: key, Cookie: r.Uint32(), Off: off, Size: r.Intn(maxSize + 1)}
}

// badItems returns items with this key of which exactly one number is not valid.
func badItems(key uint64) []api.Item {
	var l []api.Item
	for _, off := range []int64{
		-1, -8, -16, 0, 1, 8, 15, 17, 20, 23, maxOff - 7, maxOff - 1, maxOff + 1, maxOff + 8,
		1 << 32, 1<<32 + 16, 1<<62 + 16, math.MaxInt64, math.MaxInt64 - 7, math.MinInt64, math.MinInt64 + 16,
	} {
		l = append(l, api.Item{Key: key, Off: off}, api.Item{Key: key, Cookie: 9, Off: off, Size: maxSize})
	}
	for _, size := range []int{
		-1, -2, -24, maxSize + 1, maxSize + 8, 1 << 16, 1 << 32, 1<<32 + 1, math.MaxInt64, math.MinInt64, math.MinInt64 + 1,
	} {
		l = append(l, api.Item{Key: key, Off: minOff, Size: size}, api.Item{Key: key, Cookie: 9, Off: maxOff, Size: size})
	}
	return l
}

// keysOf returns n keys of the stripe s in ascending order: the smallest ones, the
// greatest ones and random ones between them.
func keysOf(r *rand.Rand, s, n int) []uint64 {
	var l []uint64
	for key := uint64(0); len(l) < n/3; key++ {
		if stripe(key) == s {
			l = append(l, key)
		}
	}
	for key := uint64(maxKey); len(l) < n/3*2; key-- {
		if stripe(key) == s {
			l = append(l, key)
		}
	}
	for len(l) < n {
		if key := r.Uint64(); stripe(key) == s && !slices.Contains(l, key) {
			l = append(l, key)
		}
	}
	slices.Sort(l)
	return l
}

// anyMap returns a valid map with n items.
func anyMap(r *rand.Rand, n int) nmap.Map {
	items := map[uint64]api.Item{}
	for len(items) < n {
		key := r.Uint64()
		if n <= 8 {
			key >>= r.Intn(64)
		}
		items[key] = anyItem(r, key)
	}
	return build(items, r.Int63n(maxGarbage+1))
}

// goodMaps returns valid maps: without items, with items in one stripe and in all
// of them, with the least and the greatest key, with records of every kind of
// length, with little and much garbage.
func goodMaps(r *rand.Rand) []nmap.Map {
	l := []nmap.Map{
		{}, {Garbage: 1}, {Garbage: 24}, {Garbage: maxGarbage}, {Garbage: maxGarbage - 1}, {Garbage: maxGarbage - 24}, {Garbage: maxGarbage - 4120},
		of(0, item(0, 0)), of(5, item(0, 1), item(maxKey, 2)), of(maxGarbage, api.Item{Key: maxKey, Cookie: math.MaxUint32, Off: maxOff, Size: maxSize}),
		of(0, item(0, 3), item(1, 3), item(2, 3), item(3, 3), item(4, 3)), of(7, api.Item{Key: 1, Off: minOff}, api.Item{Key: 2, Off: minOff, Size: maxSize}),
	}
	for s := range stripes {
		var one []api.Item
		for i, key := range keysOf(r, s, 9) {
			one = append(one, item(key, i))
			l = append(l, of(int64(i), one...))
		}
	}
	for n := range 20 {
		l = append(l, anyMap(r, n))
	}
	return append(l, anyMap(r, 100), anyMap(r, 333))
}

// same reports whether two maps are equal, where nil and empty stripes are equivalent.
func same(a, b nmap.Map) bool {
	for s := range stripes {
		if !slices.Equal(a.Stripes[s], b.Stripes[s]) {
			return false
		}
	}
	return a.Live == b.Live && a.Garbage == b.Garbage
}

// copied returns m in memory of its own.
func copied(m nmap.Map) nmap.Map {
	for s, l := range m.Stripes {
		m.Stripes[s] = slices.Clone(l)
	}
	return m
}

// brief returns the beginning of each stripe, for messages.
func brief(m nmap.Map) nmap.Map {
	for s, l := range m.Stripes {
		m.Stripes[s] = l[:min(len(l), 8)]
	}
	return m
}

func few(l []api.Item) []api.Item { return l[:min(len(l), 24)] }

func checkMap(t *testing.T, what string, got, want nmap.Map) {
	t.Helper()
	if !same(got, want) {
		t.Errorf("%s: %v, want %v", what, brief(got), brief(want))
	}
}

func checkValid(t *testing.T, what string, m nmap.Map, want bool) {
	t.Helper()
	if v := nmap.Valid(m); v != want {
		t.Errorf("%s: Valid(%v) = %v, want %v", what, brief(m), v, want)
	}
}

func checkGet(t *testing.T, what string, m nmap.Map, key uint64, want api.Item, found bool) {
	t.Helper()
	if x, ok := nmap.Get(m, key); x != want || ok != found {
		t.Errorf("%s: Get(%v, %d) = %v, %v, want %v, %v", what, brief(m), key, x, ok, want, found)
	}
}

// checkItems compares Items and Len.
func checkItems(t *testing.T, what string, m nmap.Map, want []api.Item) {
	t.Helper()
	if l := nmap.Items(m); !slices.Equal(l, want) {
		t.Errorf("%s: Items(%v) = %v, want %v", what, brief(m), few(l), few(want))
	}
	if n := nmap.Len(m); n != len(want) {
		t.Errorf("%s: Len(%v) = %d, want %d", what, brief(m), n, len(want))
	}
}

func checkFrom(t *testing.T, what string, l []api.Item, garbage int64, want nmap.Map) {
	t.Helper()
	if m := nmap.From(l, garbage); !same(m, want) {
		t.Errorf("%s: From(%v, %d) = %v, want %v", what, few(l), garbage, brief(m), brief(want))
	}
}

// checkChanges compares Get, Put and Delete with the chapter, for an item and its key.
func checkChanges(t *testing.T, what string, m nmap.Map, x api.Item) {
	t.Helper()
	old, found := table(m)[x.Key]
	if !valid(m) {
		old, found = api.Item{}, false
	}
	checkGet(t, what, m, x.Key, old, found)
	checkMap(t, what+": Put", nmap.Put(m, x), put(m, x))
	checkMap(t, what+": Delete", nmap.Delete(m, x.Key), remove(m, x.Key))
}

// checkLikeChapter compares all functions of a map with the chapter.
func checkLikeChapter(t *testing.T, what string, m nmap.Map, x api.Item, n int64) {
	t.Helper()
	checkValid(t, what, m, valid(m))
	checkChanges(t, what, m, x)
	checkMap(t, what+": Waste", nmap.Waste(m, n), waste(m, n))
	checkItems(t, what, m, itemsOf(m))
}
