package nmap_test

import (
	"cmp"
	"math"
	"math/rand"
	"slices"
	"testing"

	"needlestore/api"
	"needlestore/nmap"
)

// The chapter's examples.

func TestExamples(t *testing.T) {
	if a, b := nmap.Stripe(0), nmap.Stripe(1); a != 0 || b != 4 {
		t.Errorf("Stripe(0), Stripe(1) = %d, %d", a, b)
	}
	for _, key := range []uint64{0, 1, maxKey} {
		m := nmap.Put(nmap.New(), api.Item{Key: key, Cookie: 7, Off: 16})
		if m.Live != 24 || m.Garbage != 0 {
			t.Errorf("Put of key %d: %v", key, m)
		}
		m = nmap.Delete(m, key)
		if m.Live != 0 || m.Garbage != 24 {
			t.Errorf("Delete of key %d: %v", key, m)
		}
	}
}

// Promise 11.1: Stripe.

func checkStripe(t *testing.T, key uint64, want int) {
	t.Helper()
	if s := nmap.Stripe(key); s != want {
		t.Errorf("Stripe(%d) = %d, want %d", key, s, want)
	}
}

func TestStripeByHand(t *testing.T) {
	for key, want := range map[uint64]int{
		0: 0, 1: 4, 2: 1, 3: 6, 4: 3, 5: 0, 6: 5, 7: 2, 8: 7, 1 << 61: 5, 1 << 62: 2, 1 << 63: 4, 1<<63 - 1: 7, maxKey: 3, maxKey - 1: 6,
	} {
		checkStripe(t, key, want)
	}
}

// The first and the last keys of each stripe, counted by their products.
func TestStripeAtEachBound(t *testing.T) {
	for s := range stripes {
		first, last := uint64(s)<<61, uint64(s)<<61+1<<61-1
		for d := range uint64(100) {
			checkStripe(t, keyWith(first+d), s)
			checkStripe(t, keyWith(last-d), s)
			checkStripe(t, keyWith(first-1-d), (s+stripes-1)%stripes)
			checkStripe(t, keyWith(last+1+d), (s+1)%stripes)
		}
	}
}

func TestStripeOfManyKeys(t *testing.T) {
	r := rand.New(rand.NewSource(1))
	for key := range uint64(20000) {
		for _, x := range []uint64{key, maxKey - key, r.Uint64(), r.Uint64() >> r.Intn(64)} {
			checkStripe(t, x, stripe(x))
		}
	}
	for bit := range 64 {
		for d := range uint64(20) {
			checkStripe(t, 1<<bit+d, stripe(1<<bit+d))
			checkStripe(t, 1<<bit-d, stripe(1<<bit-d))
			checkStripe(t, maxKey<<bit+d, stripe(maxKey<<bit+d))
		}
	}
}

// Promise 11.1: New.

func TestNew(t *testing.T) {
	m := nmap.New()
	checkMap(t, "New", m, nmap.Map{})
	checkValid(t, "New", m, true)
	checkItems(t, "New", m, nil)
	if len(m.Stripes) != stripes || nmap.MaxGarbage != maxGarbage {
		t.Errorf("%d stripes, MaxGarbage %d", len(m.Stripes), nmap.MaxGarbage)
	}
}

// Promise 11.1: Valid.

func TestValidMaps(t *testing.T) {
	for _, m := range goodMaps(rand.New(rand.NewSource(2))) {
		checkValid(t, "a valid map", m, true)
	}
}

func TestValidOfEachSize(t *testing.T) {
	for size := range maxSize + 1 {
		x := api.Item{Key: 7, Off: 16, Size: size}
		m := of(3, x)
		checkValid(t, "one item", m, true)
		m.Live = int64(size)
		checkValid(t, "bytes of data in place of records", m, false)
	}
}

// checkBroken checks that a map that breaks one condition is not valid, and what
// 11.3 says about it, for the keys that it has and for another one.
func checkBroken(t *testing.T, what string, m nmap.Map) {
	t.Helper()
	if valid(m) {
		t.Fatalf("%s: %v is valid", what, brief(m))
	}
	checkValid(t, what, m, false)
	checkItems(t, what, m, nil)
	keys := []uint64{77}
	for _, l := range m.Stripes {
		if len(l) > 0 {
			keys = append(keys, l[0].Key, l[len(l)-1].Key)
		}
	}
	for _, key := range keys {
		checkGet(t, what, m, key, api.Item{}, false)
		checkMap(t, what+": Put", nmap.Put(m, item(key, 2)), m)
		checkMap(t, what+": Delete", nmap.Delete(m, key), m)
	}
	for _, n := range []int64{0, 1, 24, -1} {
		checkMap(t, what+": Waste", nmap.Waste(m, n), m)
	}
}

// wholeMap returns a map with n items in each stripe, the first one with key 0.
func wholeMap(n int) nmap.Map {
	r := rand.New(rand.NewSource(3))
	var l []api.Item
	for s := range stripes {
		for i, key := range keysOf(r, s, n) {
			l = append(l, item(key, s+9*i))
		}
	}
	return of(1000, l...)
}

func TestInvalidItemAtEachPlace(t *testing.T) {
	m := wholeMap(3)
	for s, l := range m.Stripes {
		for i, old := range l {
			for _, x := range badItems(old.Key) {
				b := copied(m)
				b.Stripes[s][i] = x
				checkBroken(t, "an item that is not valid, Live as before", b)
				b.Live -= length(old)
				checkBroken(t, "an item that is not valid, Live without it", b)
				b.Live += 24
				checkBroken(t, "an item that is not valid, Live with a header for it", b)
			}
		}
	}
}

func TestOneInvalidItem(t *testing.T) {
	for _, key := range []uint64{0, 1, maxKey} {
		for _, x := range badItems(key) {
			for _, live := range []int64{0, 24, 4120, int64(x.Size), int64(x.Size) + 24} {
				m := nmap.Map{Live: live}
				m.Stripes[stripe(key)] = []api.Item{x}
				checkBroken(t, "an item that is not valid", m)
			}
		}
	}
}

func TestEqualKeysAtEachPlace(t *testing.T) {
	m := wholeMap(4)
	for s, l := range m.Stripes {
		for i, x := range l {
			b := copied(m)
			b.Stripes[s] = slices.Insert(b.Stripes[s], i, x)
			b.Live += length(x)
			checkBroken(t, "an item twice", b)
			b.Stripes[s][i] = item(x.Key, 80)
			b.Live += length(b.Stripes[s][i]) - length(x)
			checkBroken(t, "two items with one key", b)
			b.Live = m.Live
			checkBroken(t, "two items with one key, Live with only the last one", b)
		}
	}
}

func TestDescendingKeysAtEachPlace(t *testing.T) {
	m := wholeMap(6)
	for s, l := range m.Stripes {
		for i := range l {
			for j := range i {
				b := copied(m)
				b.Stripes[s][i], b.Stripes[s][j] = l[j], l[i]
				checkBroken(t, "two items exchanged", b)
			}
		}
	}
}

// The item is inserted so that the keys ascend and Live fits.
func TestKeysInAWrongStripe(t *testing.T) {
	r := rand.New(rand.NewSource(4))
	for _, m := range []nmap.Map{{}, wholeMap(3)} {
		for s := range stripes {
			for other := range stripes {
				if other == s {
					continue
				}
				for _, key := range keysOf(r, other, 12) {
					b, x := copied(m), item(key, 4)
					b.Stripes[s] = list(table(nmap.Map{Stripes: [stripes][]api.Item{b.Stripes[s], {x}}}))
					b.Live += length(x)
					checkBroken(t, "a key in a wrong stripe", b)
				}
				if len(m.Stripes[s]) > 0 {
					b := copied(m)
					b.Stripes[s], b.Stripes[other] = b.Stripes[other], b.Stripes[s]
					checkBroken(t, "two stripes exchanged", b)
				}
			}
		}
	}
}

func TestLiveThatDoesNotFit(t *testing.T) {
	for _, m := range goodMaps(rand.New(rand.NewSource(5))) {
		for _, d := range []int64{1, 2, 7, 8, 24, 4120, 1 << 31, 1 << 32, 1 << 40, 1 << 53, 1<<53 + 1, 1 << 54, 1<<62 - 1, 1 << 62, math.MinInt64} {
			b := m
			b.Live = m.Live + d
			checkBroken(t, "Live too great", b)
			b.Live = m.Live - d
			checkBroken(t, "Live too small", b)
		}
		b := m
		for _, b.Live = range []int64{0, -1, -m.Live, m.Garbage, m.Live + m.Garbage, math.MaxInt64, math.MinInt64} {
			if b.Live != m.Live {
				checkBroken(t, "another Live", b)
			}
		}
	}
}

// One item of a map without Live, and Live without one of the items.
func TestLiveOfOtherItems(t *testing.T) {
	m := wholeMap(3)
	for s, l := range m.Stripes {
		b := copied(m)
		b.Stripes[s] = nil
		checkBroken(t, "a stripe is missing", b)
		for i := range l {
			b := copied(m)
			b.Stripes[s] = slices.Delete(b.Stripes[s], i, i+1)
			checkBroken(t, "an item is missing", b)
		}
	}
}

func TestGarbageAtItsBounds(t *testing.T) {
	for _, m := range goodMaps(rand.New(rand.NewSource(6))) {
		for _, m.Garbage = range []int64{0, 1, 23, 1 << 31, 1 << 32, 1<<32 + 1, maxGarbage - 2, maxGarbage - 1, maxGarbage} {
			checkValid(t, "Garbage", m, true)
		}
		for _, m.Garbage = range []int64{
			-1, -2, -24, -m.Live - 1, -1 << 32, -maxGarbage, math.MinInt64, math.MinInt64 + 1,
			maxGarbage + 1, maxGarbage + 2, maxGarbage + 24, 2 * maxGarbage, 1 << 53, 1<<53 + 1, math.MaxInt64 - 1, math.MaxInt64,
		} {
			checkBroken(t, "Garbage", m)
		}
	}
}

// Several conditions may be broken together, so that their mistakes could cancel out.
func TestRandomMaps(t *testing.T) {
	r := rand.New(rand.NewSource(7))
	accepted := 0
	for range 20000 {
		m := anyMap(r, r.Intn(6))
		for range r.Intn(3) {
			s := r.Intn(stripes)
			switch r.Intn(5) {
			case 0:
				m.Live += int64(r.Intn(5) - 2)
			case 1:
				m.Garbage = int64(r.Uint64()) >> r.Intn(40)
			case 2:
				m.Stripes[s] = append(m.Stripes[s], anyItem(r, r.Uint64()))
			case 3:
				m = of(m.Garbage, append(m.Stripes[s], m.Stripes[r.Intn(stripes)]...)...)
			case 4:
				slices.Reverse(m.Stripes[s])
			}
		}
		if valid(m) {
			accepted++
		}
		checkLikeChapter(t, "a random map", m, anyItem(r, uint64(r.Intn(20))), r.Int63()>>r.Intn(40))
	}
	if accepted < 2000 || accepted > 18000 {
		t.Errorf("%d of 20000 are valid", accepted)
	}
}

// Promise 11.2: Get, Put, Delete, Len and Items.

func TestChangesByHand(t *testing.T) {
	a, b, c := api.Item{Key: 5, Cookie: 1, Off: 16, Size: 4}, api.Item{Key: 1, Cookie: 2, Off: 48, Size: 5}, api.Item{Key: 5, Cookie: 3, Off: 80, Size: 13}
	m := nmap.Put(nmap.Put(nmap.New(), a), b)
	want := nmap.Map{Live: 24 + 8 + 24 + 8}
	want.Stripes[0], want.Stripes[4] = []api.Item{a}, []api.Item{b}
	checkMap(t, "Put of a and b", m, want)
	checkGet(t, "a and b", m, 5, a, true)
	checkGet(t, "a and b", m, 1, b, true)
	checkGet(t, "a and b", m, 0, api.Item{}, false)
	checkItems(t, "a and b", m, []api.Item{b, a})

	m = nmap.Put(m, c)
	want.Stripes[0], want.Live, want.Garbage = []api.Item{c}, 32+40, 32
	checkMap(t, "Put of c in place of a", m, want)
	checkGet(t, "b and c", m, 5, c, true)
	checkItems(t, "b and c", m, []api.Item{b, c})
	checkMap(t, "Delete of another key of the same stripe", nmap.Delete(m, 0), want)

	m = nmap.Delete(m, 5)
	want.Stripes[0], want.Live, want.Garbage = nil, 32, 32+40
	checkMap(t, "Delete of c", m, want)
	checkMap(t, "Delete of c once more", nmap.Delete(m, 5), want)
	checkItems(t, "b", m, []api.Item{b})

	m = nmap.Waste(m, 24)
	want.Garbage = 96
	checkMap(t, "Waste", m, want)
	checkMap(t, "Waste of nothing", nmap.Waste(m, 0), want)
}

// For each stripe, alone and beside the others: the keys that are there are at
// its beginning, in its middle and at its end, those that are not are before,
// between and behind them.
func TestChangesAtEachPlace(t *testing.T) {
	r := rand.New(rand.NewSource(8))
	for s := range stripes {
		keys := keysOf(r, s, 12)
		for n := range 6 {
			var own, others []api.Item
			for i := range n {
				own = append(own, item(keys[2*i+1], i))
			}
			for other := range stripes {
				if other != s {
					others = append(others, item(keysOf(r, other, 3)[1], 20+other))
				}
			}
			for _, m := range []nmap.Map{of(9, own...), of(9, slices.Concat(own, others)...)} {
				for i, key := range keys {
					checkLikeChapter(t, "the same length", m, api.Item{Key: key, Cookie: 5, Off: 800, Size: 8 * (i / 2)}, int64(i))
					checkLikeChapter(t, "another length", m, item(key, 50+i), int64(i))
					if there := i%2 == 1 && i < 2*n; nmap.Len(nmap.Delete(m, key)) != nmap.Len(m) != there {
						t.Errorf("stripe %d, %d items: key number %d is deleted, or not", s, n, i)
					}
				}
			}
		}
	}
}

// An item of each size replaces those of some sizes, and is replaced by them.
func TestPutOfEachSize(t *testing.T) {
	for size := range maxSize + 1 {
		x := api.Item{Key: 9, Cookie: 1, Off: 16, Size: size}
		n := length(x)
		checkMap(t, "Put", nmap.Put(nmap.New(), x), of(0, x))
		checkMap(t, "Put of the same item", nmap.Put(of(5, x), x), of(5+n, x))
		checkMap(t, "Delete", nmap.Delete(of(5, x), 9), of(5+n))
		for _, other := range []int{0, 1, 4, 5, 100, maxSize - 1, maxSize} {
			y := api.Item{Key: 9, Cookie: 2, Off: 24, Size: other}
			checkMap(t, "Put in its place", nmap.Put(of(1, x), y), of(1+n, y))
			checkMap(t, "Put in the place of another", nmap.Put(of(1, y), x), of(1+length(y), x))
		}
	}
}

func TestChangesOfManyMaps(t *testing.T) {
	r := rand.New(rand.NewSource(9))
	for _, m := range goodMaps(r) {
		keys := []uint64{0, 1, maxKey, r.Uint64()}
		for _, l := range m.Stripes {
			for _, x := range l[:min(len(l), 6)] {
				keys = append(keys, x.Key, x.Key-1, x.Key+1)
			}
		}
		for _, key := range keys {
			checkLikeChapter(t, "a valid map", m, anyItem(r, key), r.Int63n(100))
		}
	}
}

// Neither the cookie nor the offset counts.
func TestPutOfEachOffset(t *testing.T) {
	for off := int64(minOff); off <= maxOff; off += 8 {
		x := api.Item{Key: 3, Cookie: uint32(off) * 4099, Off: off, Size: int(off / 8 % 50)}
		checkMap(t, "Put", nmap.Put(of(0, item(3, 1)), x), of(32, x))
	}
}

func TestItemsAreAscending(t *testing.T) {
	r := rand.New(rand.NewSource(10))
	for s := range stripes {
		var l []api.Item
		for i, key := range keysOf(r, s, 30) {
			l = append(l, item(key, i))
		}
		checkItems(t, "one stripe", of(2, l...), l)
	}
	var l []api.Item
	for i := range 500 {
		l = append(l, item(uint64(i)*3, i))
	}
	checkItems(t, "all stripes, keys that follow one another", of(2, l...), l)
	l = nil
	for i := range 2000 {
		l = append(l, item(uint64(i)<<53+r.Uint64()>>11, i))
	}
	checkItems(t, "all stripes, all keys", of(2, l...), l)
	for n := range 40 {
		checkItems(t, "the first items", of(2, l[:n]...), l[:n])
	}
}

// Items from each set of stripes.
func TestItemsOfEachSetOfStripes(t *testing.T) {
	all := wholeMap(3)
	for set := range 1 << stripes {
		var l []api.Item
		for s, own := range all.Stripes {
			if set>>s&1 == 1 {
				l = append(l, own...)
			}
		}
		slices.SortFunc(l, func(x, y api.Item) int { return cmp.Compare(x.Key, y.Key) })
		checkItems(t, "some stripes", of(0, l...), l)
	}
}

// Promises 11.2 and 11.3: Waste.

func TestWaste(t *testing.T) {
	for _, m := range goodMaps(rand.New(rand.NewSource(11))) {
		left := maxGarbage - m.Garbage
		for _, n := range []int64{0, 1, 2, 7, 8, 24, 1 << 20, 1 << 31, 1 << 32, left / 2, left - 24, left - 1, left} {
			if n >= 0 && n <= left {
				want := m
				want.Garbage += n
				checkMap(t, "Waste", nmap.Waste(m, n), want)
			}
		}
		for _, n := range []int64{left + 1, left + 2, left + 24, maxGarbage + 1, 2 * maxGarbage, 1 << 53, 1<<53 + 1, math.MaxInt64 - 1, math.MaxInt64} {
			checkMap(t, "Waste of too much", nmap.Waste(m, n), m)
		}
		for _, n := range []int64{-1, -2, -8, -24, -m.Garbage - 1, -maxGarbage, -1 << 53, math.MinInt64, math.MinInt64 + 1} {
			checkMap(t, "Waste of a negative number", nmap.Waste(m, n), m)
		}
	}
}

// Promise 11.3: MaxGarbage.

// The garbage that a replaced or deleted item makes fits exactly, with a byte to
// spare, or not by one byte.
func TestGarbageUpToTheMost(t *testing.T) {
	r := rand.New(rand.NewSource(12))
	for _, size := range []int{0, 1, 4, 5, 12, 13, 99, 100, 101, 2048, maxSize - 1, maxSize} {
		for s := range stripes {
			keys := keysOf(r, s, 6)
			x, beside := api.Item{Key: keys[2], Cookie: 7, Off: 40, Size: size}, []api.Item{item(keys[0], 2), item(keys[4], 3), item(1, 4), item(2, 5)}
			for _, fresh := range []api.Item{x, item(x.Key, 0), item(x.Key, 512)} {
				for spare := int64(-3); spare <= 3; spare++ {
					garbage := maxGarbage - length(x) + spare
					for _, l := range [][]api.Item{{x}, append(beside, x)} {
						m := of(garbage, l...)
						wantPut, wantDelete := m, m
						if spare <= 0 {
							wantPut = of(maxGarbage+spare, append(slices.Clone(l[:len(l)-1]), fresh)...)
							wantDelete = of(maxGarbage+spare, l[:len(l)-1]...)
						}
						checkMap(t, "Put", nmap.Put(m, fresh), wantPut)
						checkMap(t, "Delete", nmap.Delete(m, x.Key), wantDelete)
					}
				}
			}
		}
	}
}

// What adds no garbage is possible with the most garbage.
func TestChangesWithTheMostGarbage(t *testing.T) {
	m := wholeMap(2)
	m.Garbage = maxGarbage
	items := table(m)
	checkMap(t, "Waste of nothing", nmap.Waste(m, 0), m)
	checkMap(t, "Waste of a byte", nmap.Waste(m, 1), m)
	for key := uint64(1000); key < 1100; key++ {
		x := item(key, 3)
		checkMap(t, "Delete of a key that is not there", nmap.Delete(m, key), m)
		items[key] = x
		checkMap(t, "Put of a new key", nmap.Put(m, x), build(items, maxGarbage))
		delete(items, key)
	}
	for key, x := range items {
		checkGet(t, "the most garbage", m, key, x, true)
		checkMap(t, "Delete", nmap.Delete(m, key), m)
		checkMap(t, "Put", nmap.Put(m, item(key, 1)), m)
	}
}

// Promise 11.3: items that are not valid.

func TestPutOfInvalidItems(t *testing.T) {
	for _, m := range []nmap.Map{{}, of(3, item(5, 0)), of(maxGarbage, item(5, 1)), wholeMap(3)} {
		keys := []uint64{0, 5, 77, maxKey}
		for _, l := range m.Stripes {
			if len(l) > 0 {
				keys = append(keys, l[0].Key)
			}
		}
		for _, key := range keys {
			for _, x := range badItems(key) {
				checkMap(t, "Put of an item that is not valid", nmap.Put(m, x), m)
			}
		}
	}
}

// An item that is just valid is put.
func TestPutOfItemsAtTheBounds(t *testing.T) {
	for _, off := range []int64{16, 24, 1048568, 1048576} {
		for _, size := range []int{0, 1, 4095, 4096} {
			for _, key := range []uint64{0, 1, maxKey} {
				x := api.Item{Key: key, Cookie: math.MaxUint32, Off: off, Size: size}
				checkMap(t, "Put", nmap.Put(nmap.New(), x), of(0, x))
				checkFrom(t, "one item", []api.Item{x}, 1, of(1, x))
			}
		}
	}
}

// Promises 11.2 and 11.3: From.

func TestFromByHand(t *testing.T) {
	a, b, c, d := item(5, 1), item(1, 2), item(5, 3), item(0, 4) // 32, 40, 48 and 56 bytes
	want := nmap.Map{Live: 40 + 48 + 56, Garbage: 6}
	want.Stripes[0], want.Stripes[4] = []api.Item{d, c}, []api.Item{b}
	checkFrom(t, "by hand", []api.Item{a, b, c, d}, 6, want)
	checkFrom(t, "by hand", []api.Item{a, c, d, b}, 6, want)
	checkFrom(t, "by hand", []api.Item{b, d, a, a, a, c, c}, 6, want)
	want.Live, want.Stripes[0] = 40+32+56, []api.Item{d, a}
	checkFrom(t, "by hand", []api.Item{c, b, c, d, a}, 6, want)
}

func TestFromOfNoItems(t *testing.T) {
	for _, l := range [][]api.Item{nil, {}} {
		for _, garbage := range []int64{0, 1, 24, 1 << 32, maxGarbage - 1, maxGarbage} {
			checkFrom(t, "no items", l, garbage, nmap.Map{Garbage: garbage})
		}
	}
}

func TestFromOfGarbageBeyondItsBounds(t *testing.T) {
	for _, l := range [][]api.Item{nil, {item(5, 1)}, {item(5, 1), item(1, 2), item(5, 3)}, itemsOf(wholeMap(3))} {
		for _, garbage := range []int64{maxGarbage + 1, maxGarbage + 2, 2 * maxGarbage, 1 << 53, 1<<53 + 1, math.MaxInt64, -1, -2, -24, -32, -maxGarbage, math.MinInt64} {
			checkFrom(t, "garbage", l, garbage, nmap.Map{})
		}
	}
}

// The items that do not count make no garbage, also where it is the most.
func TestFromOfItemsThatDoNotCount(t *testing.T) {
	for n := range 30 {
		var l []api.Item
		for i := range n + 1 {
			l = append(l, item(9, i))
		}
		for _, garbage := range []int64{0, maxGarbage - 1, maxGarbage} {
			checkFrom(t, "one key", l, garbage, of(garbage, item(9, n)))
		}
	}
}

// sequences calls f with every sequence of at most n of these keys, as items that
// are all different. The items are the same memory each time.
func sequences(keys []uint64, n int, f func([]api.Item)) {
	l := make([]api.Item, 0, n)
	var extend func()
	extend = func() {
		f(l)
		if len(l) == n {
			return
		}
		for _, key := range keys {
			l = append(l, item(key, len(l)))
			extend()
			l = l[:len(l)-1]
		}
	}
	extend()
}

// Keys 0 and 5 have the same stripe, and so have 1 and 9.
func TestFromOfSequences(t *testing.T) {
	if stripe(0) != stripe(5) || stripe(1) != stripe(9) {
		t.Fatal("other stripes")
	}
	sequences([]uint64{0, 1, 5, 9}, 6, func(l []api.Item) {
		checkFrom(t, "a sequence", l, int64(len(l)), from(l, int64(len(l))))
	})
}

func TestFromOfAnInvalidItemAtEachPlace(t *testing.T) {
	for _, l := range [][]api.Item{{item(5, 0)}, {item(5, 0), item(5, 1)}, {item(9, 0), item(5, 1), item(0, 2), item(5, 3)}, itemsOf(wholeMap(3))} {
		for i := range l {
			for _, x := range badItems(l[i].Key) {
				bad := slices.Clone(l)
				bad[i] = x
				checkFrom(t, "an item that is not valid", bad, 3, nmap.Map{})
				checkFrom(t, "an item that is not valid, before it a valid one", slices.Insert(bad, i, l[i]), 3, nmap.Map{})
				checkFrom(t, "an item that is not valid, behind it a valid one", slices.Insert(slices.Clone(bad), i+1, l[i]), 3, nmap.Map{})
			}
		}
	}
}

// Few and many different keys, in any order.
func TestFromOfRandomLists(t *testing.T) {
	r := rand.New(rand.NewSource(13))
	for n := range 400 {
		bound := 1 + r.Intn(3*n+1)
		var l []api.Item
		for range n {
			key := uint64(r.Intn(bound))
			if n%2 == 1 {
				key *= factor
			}
			l = append(l, anyItem(r, key))
		}
		garbage := r.Int63n(maxGarbage + 1)
		m := from(l, garbage)
		checkFrom(t, "a random list", l, garbage, m)
		checkFrom(t, "its items", itemsOf(m), garbage, m)
	}
}

// Live comes to its greatest possible number for so many items.
func TestManyItems(t *testing.T) {
	const n = 100000
	var l []api.Item
	for i := range uint64(n) {
		l = append(l, api.Item{Key: i * 7, Cookie: 1, Off: 16 + 8*int64(i), Size: maxSize})
	}
	m := nmap.From(l, maxGarbage-4120)
	if m.Live != n*4120 || m.Garbage != maxGarbage-4120 || !nmap.Valid(m) {
		t.Errorf("Live %d, Garbage %d", m.Live, m.Garbage)
	}
	checkItems(t, "many items", m, l)
	for _, key := range []uint64{0, 7, 350000, 7*n - 7} {
		x := nmap.Delete(m, key)
		if x.Live != (n-1)*4120 || x.Garbage != maxGarbage || nmap.Len(x) != n-1 {
			t.Errorf("Delete of key %d: Live %d, Garbage %d", key, x.Live, x.Garbage)
		}
		y := nmap.Put(m, api.Item{Key: key, Off: 16})
		if y.Live != (n-1)*4120+24 || y.Garbage != maxGarbage || nmap.Len(y) != n {
			t.Errorf("Put of key %d: Live %d, Garbage %d", key, y.Live, y.Garbage)
		}
		checkMap(t, "Delete of another key", nmap.Delete(m, key+1), m)
	}
}

// Promise 11.4.

// plain is a plain map beside a map, with the lengths of all records that were
// put, and what was wasted.
type plain struct {
	items          map[uint64]api.Item
	record, wasted int64
}

func (p plain) live() int64 {
	var sum int64
	for _, x := range p.items {
		sum += length(x)
	}
	return sum
}

// check compares all that can be seen of m with the plain map.
func (p plain) check(t *testing.T, what string, m nmap.Map, keys []uint64) {
	t.Helper()
	if live := p.live(); m.Live != live || m.Live+m.Garbage != p.record+p.wasted {
		t.Errorf("%s: Live %d, Garbage %d, want %d live of %d + %d bytes", what, m.Live, m.Garbage, live, p.record, p.wasted)
	}
	checkValid(t, what, m, true)
	checkItems(t, what, m, list(p.items))
	for _, key := range keys {
		want, found := p.items[key]
		checkGet(t, what, m, key, want, found)
	}
}

// checkHistory makes n random changes of the items of these keys.
func checkHistory(t *testing.T, r *rand.Rand, what string, keys []uint64, n int) {
	t.Helper()
	m, p := nmap.New(), plain{items: map[uint64]api.Item{}}
	for range n {
		key := keys[r.Intn(len(keys))]
		switch r.Intn(8) {
		case 0, 1, 2, 3:
			x := anyItem(r, key)
			m = nmap.Put(m, x)
			p.items[key] = x
			p.record += length(x)
		case 4, 5, 6:
			m = nmap.Delete(m, key)
			delete(p.items, key)
		case 7:
			lost := int64(r.Intn(1 << r.Intn(28)))
			m = nmap.Waste(m, lost)
			p.wasted += lost
		}
		p.check(t, what, m, []uint64{key, keys[r.Intn(len(keys))], r.Uint64()})
	}
	p.check(t, what, m, keys)
	checkFrom(t, what, itemsOf(m), m.Garbage, m)
}

func TestHistories(t *testing.T) {
	r := rand.New(rand.NewSource(14))
	for s := range stripes {
		checkHistory(t, r, "one stripe", keysOf(r, s, 12), 1500)
	}
	var some, all []uint64
	for s := range stripes {
		keys := keysOf(r, s, 6)
		some, all = append(some, keys[0], keys[5]), append(all, keys...)
	}
	checkHistory(t, r, "few keys of each stripe", some, 4000)
	checkHistory(t, r, "all stripes", all, 4000)
	for n := range 12 {
		var keys []uint64
		for i := range uint64(n*n + 1) {
			keys = append(keys, i)
		}
		checkHistory(t, r, "keys that follow one another", keys, 1000)
	}
}

// The history goes on where changes are refused: they leave no trace.
func TestHistoriesAtTheMostGarbage(t *testing.T) {
	r := rand.New(rand.NewSource(15))
	refused := 0
	for range 60 {
		m := of(maxGarbage - r.Int63n(4000))
		for range 60 {
			key := uint64(r.Intn(10))
			x, n := anyItem(r, key), r.Int63n(500)-100
			checkLikeChapter(t, "much garbage", m, x, n)
			before := m
			switch r.Intn(4) {
			case 0:
				m = nmap.Waste(m, n)
			case 1:
				m = nmap.Delete(m, key)
			default:
				x.Size = r.Intn(100)
				m = nmap.Put(m, x)
			}
			if same(m, before) {
				refused++
			}
		}
	}
	if refused < 500 || refused > 3000 {
		t.Errorf("%d of 3600 changes refused", refused)
	}
}

// The same items give the same map, however they came into it.
func TestOrderOfPutsDoesNotMatter(t *testing.T) {
	r := rand.New(rand.NewSource(16))
	for range 100 {
		m := anyMap(r, r.Intn(40))
		l := itemsOf(m)
		for range 3 {
			r.Shuffle(len(l), func(i, j int) { l[i], l[j] = l[j], l[i] })
			x := nmap.Map{Garbage: m.Garbage}
			for _, y := range l {
				x = nmap.Put(x, y)
			}
			checkMap(t, "Put in any order", x, m)
			checkFrom(t, "in any order", l, m.Garbage, m)
		}
	}
}

// Rules R2 to R4, and rule 7 of LANGUAGE.md.

// guarded returns m with other items before and behind each stripe in the same
// memory, and a function that reports whether this memory is still the same.
func guarded(m nmap.Map) (nmap.Map, func() bool) {
	var memory, kept [stripes][]api.Item
	for s, l := range m.Stripes {
		memory[s] = slices.Concat([]api.Item{item(4, 500), item(5, 501)}, l, []api.Item{item(6, 502), item(7, 503)})
		kept[s] = slices.Clone(memory[s])
		m.Stripes[s] = memory[s][2 : 2+len(l)]
	}
	return m, func() bool {
		for s := range stripes {
			if !slices.Equal(memory[s], kept[s]) {
				return false
			}
		}
		return true
	}
}

// checkMapStays makes changes of a map, then changes of what they return.
func checkMapStays(t *testing.T, m nmap.Map, keys []uint64) {
	t.Helper()
	x, unchanged := guarded(m)
	l := []nmap.Map{nmap.Waste(x, 5)}
	for i, key := range keys {
		l = append(l, nmap.Put(x, item(key, i)), nmap.Delete(x, key))
	}
	for _, next := range l {
		for i, key := range keys {
			next = nmap.Delete(nmap.Put(next, item(key, 30+i)), keys[0])
			nmap.Get(next, key)
		}
		nmap.Items(next)
		nmap.Len(next)
	}
	if !unchanged() || !same(x, m) {
		t.Errorf("%v became %v", brief(m), brief(x))
	}
}

func TestMapsStay(t *testing.T) {
	for _, m := range []nmap.Map{{}, of(3, item(5, 0)), of(maxGarbage, item(5, 1), item(1, 2)), wholeMap(3), {Live: 1}, {Garbage: -1}} {
		keys := []uint64{77, 5, 0}
		for _, l := range m.Stripes {
			for _, x := range l {
				keys = append(keys, x.Key)
			}
		}
		checkMapStays(t, m, keys)
	}
	m := wholeMap(3)
	for s := range stripes {
		b := copied(m)
		slices.Reverse(b.Stripes[s])
		checkMapStays(t, b, []uint64{b.Stripes[s][0].Key, 5})
	}
}

// Each of the maps that were returned on the way is still what it was.
func TestEarlierMapsStay(t *testing.T) {
	r := rand.New(rand.NewSource(17))
	l := []nmap.Map{nmap.New()}
	kept := []nmap.Map{nmap.New()}
	for i := range 2000 {
		m := l[r.Intn(len(l))]
		if key := uint64(r.Intn(40)); i%3 == 0 {
			m = nmap.Delete(m, key)
		} else {
			m = nmap.Put(m, item(key, r.Intn(100)))
		}
		l, kept = append(l, m), append(kept, copied(m))
	}
	for i, m := range l {
		checkMap(t, "an earlier map", m, kept[i])
	}
}

// A stripe that is changed is new memory, up to its capacity.
func TestChangedStripesHaveMemoryOfTheirOwn(t *testing.T) {
	m := wholeMap(3)
	for s, l := range m.Stripes {
		for _, old := range l {
			for _, change := range []func() nmap.Map{
				func() nmap.Map { return nmap.Put(m, item(old.Key, 60)) },
				func() nmap.Map { return nmap.Delete(m, old.Key) },
			} {
				x, y, before := change(), change(), copied(m)
				want := copied(y)
				clear(x.Stripes[s][:cap(x.Stripes[s])])
				checkMap(t, "the argument, after a change of the result", m, before)
				checkMap(t, "the same result again", y, want)
			}
		}
	}
}

func TestStripesOfFromHaveMemoryOfTheirOwn(t *testing.T) {
	want := wholeMap(3)
	for s := range stripes {
		l := slices.Grow(itemsOf(want), 50)
		m := nmap.From(l, want.Garbage)
		clear(l[:cap(l)])
		checkMap(t, "From, after a change of its argument", m, want)
		rest := want
		rest.Stripes[s] = make([]api.Item, 3)
		clear(m.Stripes[s][:cap(m.Stripes[s])])
		checkMap(t, "the other stripes, after a change of one", m, rest)
	}
}

func TestFromLeavesItsArgument(t *testing.T) {
	for _, l := range [][]api.Item{itemsOf(wholeMap(3)), {item(9, 0), item(5, 1), item(0, 2), item(5, 3)}, {item(5, 3), item(5, 2), item(0, 1)}, badItems(3)} {
		memory := slices.Concat([]api.Item{item(1, 1)}, l, []api.Item{item(2, 2), item(3, 3)})
		kept := slices.Clone(memory)
		m := nmap.From(memory[1:1+len(l)], 4)
		for _, x := range l {
			m = nmap.Delete(nmap.Put(m, item(x.Key, 5)), x.Key)
		}
		if !slices.Equal(memory, kept) {
			t.Errorf("%v became %v", few(kept), few(memory))
		}
	}
}

func TestItemsHaveMemoryOfTheirOwn(t *testing.T) {
	for _, m := range []nmap.Map{of(3, item(5, 0)), of(3, item(5, 1), item(0, 2)), wholeMap(3)} {
		x, unchanged := guarded(m)
		first, second := nmap.Items(x), nmap.Items(x)
		clear(first[:cap(first)])
		if !unchanged() || !slices.Equal(second, itemsOf(m)) {
			t.Errorf("Items(%v) shares memory", brief(m))
		}
		for s := range stripes {
			clear(x.Stripes[s])
		}
		if !slices.Equal(second, itemsOf(m)) {
			t.Errorf("Items(%v) changes with the map", brief(m))
		}
	}
}

func TestEmptyAndNilStripesAreTheSame(t *testing.T) {
	for _, m := range []nmap.Map{{}, {Garbage: 7}, of(3, item(5, 0)), of(3, item(5, 1), item(1, 2)), {Live: 1}, {Garbage: -1}} {
		empty := m
		for s, l := range m.Stripes {
			if len(l) == 0 {
				empty.Stripes[s] = make([]api.Item, 0, 4)
			}
		}
		for key := range uint64(12) {
			checkLikeChapter(t, "nil stripes", m, item(key, 3), 5)
			checkLikeChapter(t, "empty stripes", empty, item(key, 3), 5)
		}
	}
}

func TestCallsLeaveNoTrace(t *testing.T) {
	m, bad := wholeMap(2), of(3, item(5, 1), item(1, 2))
	bad.Live++
	for range 3 {
		checkStripe(t, 1, 4)
		checkMap(t, "New", nmap.New(), nmap.Map{})
		for key := range uint64(9) {
			checkLikeChapter(t, "a valid map", m, item(key, 7), 5)
			checkLikeChapter(t, "a map that is not valid", bad, item(key, 7), 5)
		}
		l := []api.Item{item(5, 1), item(1, 2), item(5, 3)}
		checkFrom(t, "valid items", l, 5, from(l, 5))
		checkFrom(t, "an item that is not valid", append(l, api.Item{}), 5, nmap.Map{})
	}
}
