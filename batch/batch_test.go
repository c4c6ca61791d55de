package batch_test

import (
	"bytes"
	"fmt"
	"math"
	"math/rand"
	"slices"
	"testing"

	"needlestore/api"
	"needlestore/batch"
	"needlestore/generation"
	"needlestore/needle"
	"needlestore/slot"
)

// The chapter's examples.

func TestExamples(t *testing.T) {
	s, _ := slot.New(0, 5000)
	if p, e := batch.Make(s, nil); e != api.OK || !samePlan(p, plan{}) {
		t.Errorf("no requests: %s, %v", briefPlan(p), e)
	}
	p, e := batch.Make(s, []req{put(7, 8, 9), drop(7, 8)})
	if e != api.OK || p.Take != 2 || p.Rotate || len(p.Kills) != 0 || len(p.Needles) != 2 || !slices.Equal(p.Results, []errno{api.OK, api.OK}) {
		t.Errorf("a Put and a Delete: %s, %v", briefPlan(p), e)
	}
	p, e = batch.Make(s, []req{drop(7, 8)})
	if e != api.OK || !samePlan(p, plan{Take: 1, Results: []errno{api.ErrNone}}) {
		t.Errorf("a Delete in a new slot: %s, %v", briefPlan(p), e)
	}
	if b, e := batch.Bytes(p); e != api.OK || len(b) != 0 {
		t.Errorf("a Delete in a new slot: %d bytes, %v", len(b), e)
	}
	if batch.Put != 1 || batch.Delete != 2 {
		t.Error("the numbers of the kinds are other ones")
	}
}

// Promises 15.1 and 15.2: by hand.

// three returns a slot with the generations 2 (keys 1, 2, 3, 4), 5 (keys 2, 3, 5) and
// 6 (keys 3, 4, 6).
func three() store {
	return store{ID: 3, Limit: 5000, Gens: []gen{with(2, sealed, 1, 2, 3, 4), with(5, frozen, 2, 3, 5), with(6, writable, 3, 4, 6)}}
}

func checkPlan(t *testing.T, what string, s store, want plan, l ...req) {
	t.Helper()
	if p := checkMake(t, what, s, l...); !samePlan(p, want) {
		t.Errorf("%s: %s, want %s", what, briefPlan(p), briefPlan(want))
	}
}

func gone(key uint64, cookie uint32) api.Needle {
	return api.Needle{Key: key, Cookie: cookie, Deleted: true}
}

func live(r req) api.Needle { return api.Needle{Key: r.Key, Cookie: r.Cookie, Data: r.Data} }

func TestDeletesByHand(t *testing.T) {
	s := three()
	checkPlan(t, "in one earlier generation", s, plan{Take: 1, Kills: []kill{{2, []uint64{1}}}, Results: []errno{api.OK}}, drop(1, 12))
	checkPlan(t, "in two earlier generations", s, plan{Take: 1, Kills: []kill{{2, []uint64{2}}, {5, []uint64{2}}}, Results: []errno{api.OK}}, drop(2, 25))
	checkPlan(t, "in all generations", s, plan{Take: 1, Kills: []kill{{2, []uint64{3}}, {5, []uint64{3}}}, Needles: []api.Needle{gone(3, 36)}, Results: []errno{api.OK}}, drop(3, 36))
	checkPlan(t, "in the first and the last one", s, plan{Take: 1, Kills: []kill{{2, []uint64{4}}}, Needles: []api.Needle{gone(4, 46)}, Results: []errno{api.OK}}, drop(4, 46))
	checkPlan(t, "in the last one", s, plan{Take: 1, Needles: []api.Needle{gone(6, 66)}, Results: []errno{api.OK}}, drop(6, 66))
	for _, r := range []req{drop(1, 11), drop(2, 22), drop(3, 32), drop(3, 35), drop(4, 42), drop(5, 52), drop(6, 0), drop(7, 0), drop(0, 0)} {
		checkPlan(t, "another cookie, or no item", s, plan{Take: 1, Results: []errno{api.ErrNone}}, r)
	}
	checkPlan(t, "several keys", s, plan{
		Take:    8,
		Kills:   []kill{{2, []uint64{4, 2, 3, 1}}, {5, []uint64{5, 2, 3}}},
		Needles: []api.Needle{gone(4, 46), gone(6, 66), gone(3, 36)},
		Results: []errno{api.OK, api.OK, api.OK, api.OK, api.OK, api.OK, api.ErrNone, api.ErrNone},
	}, drop(4, 46), drop(6, 66), drop(5, 55), drop(2, 25), drop(3, 36), drop(1, 12), drop(4, 46), drop(2, 25))
	checkPlan(t, "the earlier generation later", s, plan{Take: 2, Kills: []kill{{2, []uint64{1}}, {5, []uint64{5}}}, Results: []errno{api.OK, api.OK}}, drop(5, 55), drop(1, 12))
}

func TestPutsByHand(t *testing.T) {
	s := three()
	a, b, c := put(1, 7, 5), put(1, 8, 0), put(9, 9, 4096)
	checkPlan(t, "a new key", s, plan{Take: 1, Needles: []api.Needle{live(c)}, Results: []errno{api.OK}}, c)
	checkPlan(t, "twice", s, plan{Take: 2, Needles: []api.Needle{live(a), live(a)}, Results: []errno{api.OK, api.OK}}, a, a)
	checkPlan(t, "a Put over an earlier item, and a Delete", s, plan{
		Take:    4,
		Kills:   []kill{{2, []uint64{1}}},
		Needles: []api.Needle{live(a), gone(1, 7)},
		Results: []errno{api.OK, api.ErrNone, api.OK, api.ErrNone},
	}, a, drop(1, 12), drop(1, 7), drop(1, 12))
	checkPlan(t, "two Puts and two Deletes", s, plan{
		Take:    5,
		Kills:   []kill{{2, []uint64{1}}},
		Needles: []api.Needle{live(a), live(b), gone(1, 8), live(a), gone(1, 7)},
		Results: []errno{api.OK, api.OK, api.OK, api.OK, api.OK},
	}, a, b, drop(1, 8), a, drop(1, 7))
	checkPlan(t, "a Delete and a Put", s, plan{
		Take:    3,
		Kills:   []kill{{2, []uint64{1}}},
		Needles: []api.Needle{live(b)},
		Results: []errno{api.OK, api.OK, api.ErrNone},
	}, drop(1, 12), b, drop(1, 12))
	checkPlan(t, "too large", s, plan{Take: 2, Needles: []api.Needle{live(b)}, Results: []errno{api.ErrTooLarge, api.OK}}, put(1, 7, 4097), b)
}

// Promise 15.2: all short sequences of requests for a key in each set of generations.

// alphabet returns requests for a key of spread, with the cookies of its items, and
// one that is no request.
func alphabet(key uint64, n, last int) []req {
	l := []req{put(key, 5, 3), put(key, cookie(key, last), 0), drop(key, 5), {Kind: 3, Key: key, Cookie: 5}}
	for i := range n {
		l = append(l, drop(key, cookie(key, last-i)))
	}
	return l
}

// sequences calls f with all sequences of up to n elements of l.
func sequences(l []req, n int, f func(l []req)) {
	var build func(begun []req)
	build = func(begun []req) {
		f(begun)
		if len(begun) == n {
			return
		}
		for _, r := range l {
			build(append(begun[:len(begun):len(begun)], r))
		}
	}
	build(nil)
}

func TestShortSequences(t *testing.T) {
	for _, x := range []struct{ gens, last, length int }{{1, 1, 4}, {1, 8, 3}, {2, 2, 4}, {2, 8, 3}, {3, 5, 3}} {
		s := spread(x.gens, x.last)
		for set := range uint64(1) << x.gens {
			what := fmt.Sprintf("the key of the set %b", set)
			sequences(alphabet(set, x.gens, x.last), x.length, func(l []req) { checkAlone(t, what, s, l...) })
		}
	}
}

// Two keys, of which one is in an earlier generation alone, and one in all.
func TestShortSequencesOfTwoKeys(t *testing.T) {
	s := spread(2, 4)
	l := []req{put(1, 5, 3), drop(1, 5), drop(1, 13), put(3, 5, 8), drop(3, 5), drop(3, 34)}
	sequences(l, 4, func(l []req) { checkAlone(t, "two keys", s, l...) })
}

// A key in each set of six generations: the cookie of the last one of the set is the
// only one with which it can be deleted.
func TestDeleteInEachSetOfGenerations(t *testing.T) {
	s := spread(6, 8)
	var all []req
	for key := range uint64(64) {
		for num := 3; num <= gens; num++ {
			r := drop(key, cookie(key, num))
			newest := key>>(num-3) == 1
			if p := checkMake(t, "each cookie", s, r); (p.Results[0] == api.OK) != newest {
				t.Errorf("Delete of key %b with the cookie of generation %d: %s", key, num, briefPlan(p))
			} else if newest {
				all = append(all, r)
			}
		}
	}
	rand.New(rand.NewSource(1)).Shuffle(len(all), func(i, j int) { all[i], all[j] = all[j], all[i] })
	for len(all) > 0 {
		p := checkMake(t, "many keys", s, all...)
		s, _ = batch.Apply(s, p)
		all = all[p.Take:]
	}
	if l := slot.Items(s); len(l) > 0 {
		t.Errorf("%d items are left", len(l))
	}
}

// farKinds are no kinds; modulo 2^8, 2^16 or 2^32 some of them are.
func farKinds() []int {
	l := []int{0, -1, -2, 3, 4, 10, 100, math.MinInt, math.MaxInt, math.MinInt + 1, math.MinInt + 2}
	for _, bits := range []int{8, 16, 32, 62} {
		for d := range 4 {
			l = append(l, 1<<bits+d, -1<<bits+d)
		}
	}
	return l
}

// What is no request has no effect, whatever its other fields are, and the plan goes
// on behind it: also in slots without room.
func TestOtherKinds(t *testing.T) {
	for _, s := range []store{three(), spread(2, 8), sized(1, 5000, 5000), sized(8, 5000, 5000)} {
		for _, kind := range farKinds() {
			for _, r := range []req{{}, put(3, 36, 9), put(3, 36, 4096), put(3, 36, 4097), drop(3, 36), drop(77, 0)} {
				r.Kind = kind
				checkPlan(t, "another kind", s, plan{Take: 1, Results: []errno{api.ErrArg}}, r)
				checkAlone(t, "another kind", s, drop(6, 66), r, drop(3, 36), r, put(3, 1, 2))
			}
		}
	}
}

// Data of a Delete and the ticket of a request do not matter.
func TestFieldsThatDoNotMatter(t *testing.T) {
	for _, n := range []int{0, 1, 4096, 4097, 100000} {
		for _, ticket := range []int64{0, -1, 5, math.MinInt64, math.MaxInt64} {
			r := drop(3, 36)
			r.Data, r.Ticket = make([]byte, n), ticket
			checkPlan(t, "a Delete with Data", three(), plan{Take: 1, Kills: []kill{{2, []uint64{3}}, {5, []uint64{3}}}, Needles: []api.Needle{gone(3, 36)}, Results: []errno{api.OK}}, r)
			p := put(9, 9, 9)
			p.Ticket = ticket
			checkPlan(t, "a ticket", three(), plan{Take: 1, Needles: []api.Needle{live(p)}, Results: []errno{api.OK}}, p)
		}
	}
}

// ReadOnly does not matter: it is not among the conditions of 15.1 and 15.2.
func TestReadOnly(t *testing.T) {
	s := three()
	s.ReadOnly = true
	checkAlone(t, "ReadOnly", s, put(1, 2, 3), drop(1, 2), drop(3, 36), drop(2, 25), put(8, 8, 8))
}

// Keys and cookies that differ in one bit are others.
func TestKeysAndCookies(t *testing.T) {
	s, _ := slot.New(0, 5000)
	for _, key := range []uint64{0, 1, 1 << 32, math.MaxUint64, 0x0123456789abcdef} {
		for _, cookie := range []uint32{0, 1, math.MaxUint32, 0x89abcdef} {
			for bit := range 64 {
				r := put(key, cookie, 2)
				checkPlan(t, "another key", s, plan{Take: 2, Needles: []api.Needle{live(r)}, Results: []errno{api.OK, api.ErrNone}}, r, drop(key^1<<bit, cookie))
				checkPlan(t, "another cookie", s, plan{Take: 2, Needles: []api.Needle{live(r)}, Results: []errno{api.OK, api.ErrNone}}, r, drop(key, cookie^1<<(bit%32)))
				checkPlan(t, "the same", s, plan{Take: 2, Needles: []api.Needle{live(r), gone(key, cookie)}, Results: []errno{api.OK, api.OK}}, r, drop(key, cookie))
			}
		}
	}
}

// Promise 15.1: the limits of a plan.

// Requests of all results count for MaxBatch, and it ends the plan alone.
func TestMaxBatch(t *testing.T) {
	s := spread(2, 8)
	s.Gens[1] = of(8, writable, 9000-recordLength(0)*40)
	for _, x := range []struct {
		what string
		r    req
	}{{"no request", req{}}, {"no item", drop(99, 0)}, {"too large", put(1, 1, 4097)}, {"no room", put(1, 1, 4000)}, {"Put", put(1, 1, 0)}} {
		for _, n := range []int{1, 2, 15, 16, 17, 18, 31, 32, 33, 100} {
			p := checkMake(t, x.what, s, slices.Repeat([]req{x.r}, n)...)
			if p.Take != min(n, maxBatch) || p.Rotate {
				t.Errorf("%s, %d times: %s", x.what, n, briefPlan(p))
			}
		}
	}
	all := append(slices.Repeat([]req{{}, drop(1, 17), put(3, 3, 1), drop(3, 3)}, 3), drop(99, 0), req{}, drop(99, 0))
	for _, last := range []req{{}, put(3, 3, 1), put(3, 3, 4000), drop(99, 0)} {
		if p := checkMake(t, "mixed", s, append(all[:15:15], last, put(4, 4, 4))...); p.Take != maxBatch {
			t.Errorf("mixed: %s", briefPlan(p))
		}
	}
}

// The seventeenth request would need a new generation: Rotate stays false.
func TestMaxBatchBeforeAPutThatDoesNotFit(t *testing.T) {
	s := sized(3, 5000, 5000)
	l := append(slices.Repeat([]req{drop(1, 1)}, 16), put(1, 1, 1))
	if p := checkMake(t, "no room", s, l...); p.Take != 16 || p.Rotate {
		t.Errorf("no room: %s", briefPlan(p))
	}
	if p := checkMake(t, "no room", s, l[1:]...); p.Take != 15 || p.Rotate {
		t.Errorf("no room: %s", briefPlan(p))
	}
	if p := checkMake(t, "no room", s, l[16:]...); p.Take != 0 || !p.Rotate {
		t.Errorf("no room: %s", briefPlan(p))
	}
}

// four returns Puts whose records have 16384 - less bytes together.
func four(less int) []req {
	return []req{put(21, 1, 4072), put(22, 1, 4072), put(23, 1, 4072), put(24, 1, 4072-less)}
}

// The records of a plan have up to MaxBatchBytes bytes exactly.
func TestMaxBatchBytes(t *testing.T) {
	s := store{ID: 1, Limit: 200000, Gens: []gen{with(1, frozen, 1, 2, 3), with(4, writable, 3, 4)}}
	for less := -8; less <= 80; less++ {
		want := 4
		if less < 0 {
			want = 3
		}
		if p := checkMake(t, "four Puts", s, four(less)...); p.Take != want || p.Rotate {
			t.Errorf("%d bytes less: %s", less, briefPlan(p))
		}
		for n := range 80 {
			fits := recordLength(n) <= int64(max(less, 0))/8*8
			if p := checkMake(t, "a Put behind", s, append(four(max(less, 0)), put(25, 1, n), drop(99, 0))...); (p.Take == 6) != fits || !fits && p.Take != 4 {
				t.Errorf("%d bytes less, and %d bytes: %s", less, n, briefPlan(p))
			}
			if n > 40 && !fits {
				break
			}
		}
	}
}

// A request that needs no record does not end a plan without room for a record; a
// Delete that needs one does, and the earlier generations keep the key.
func TestRequestsBehindMaxBatchBytes(t *testing.T) {
	s := store{ID: 1, Limit: 200000, Gens: []gen{with(1, frozen, 1, 2, 3), with(4, writable, 3, 4)}}
	free := []req{drop(1, 11), drop(1, 11), {}, put(5, 5, 4097), drop(2, 21), drop(3, 31), drop(99, 0)}
	for _, less := range []int{0, 8, 16, 23} {
		p := checkMake(t, "no records", s, append(four(less), free...)...)
		if p.Take != 4+len(free) || len(p.Needles) != 4 || !slices.EqualFunc(p.Kills, []kill{{1, []uint64{1, 2}}}, sameKill) {
			t.Errorf("no records: %s", briefPlan(p))
		}
		for _, r := range []req{drop(3, 34), drop(4, 44), drop(21, 1), put(5, 5, 0)} {
			if p := checkMake(t, "records", s, append(four(less), drop(1, 11), r, drop(2, 21))...); p.Take != 5 || len(p.Needles) != 4 || !slices.EqualFunc(p.Kills, []kill{{1, []uint64{1}}}, sameKill) {
				t.Errorf("records: %s", briefPlan(p))
			}
		}
	}
	for _, r := range []req{drop(3, 34), drop(4, 44), drop(21, 1), put(5, 5, 0)} {
		if p := checkMake(t, "24 bytes are left", s, append(four(24), drop(1, 11), r, drop(2, 21), put(6, 6, 0))...); p.Take != 7 || len(p.Needles) != 5 {
			t.Errorf("24 bytes are left: %s", briefPlan(p))
		}
	}
}

// With MaxBatchBytes bytes of records, a Put behind them ends the plan if the slot
// has room for it or for a generation, and has the result ErrFull otherwise.
func TestMaxBatchBytesAndRoom(t *testing.T) {
	for num := 1; num <= gens; num++ {
		for _, room := range []int64{0, 8, 16, 24, 4120} {
			s := sized(num, superSize+maxBatchBytes+room, superSize)
			for _, n := range []int{0, 8, 4072, 4096} {
				p := checkMake(t, "a Put behind", s, append(four(0), put(9, 9, n), drop(99, 0))...)
				if full := num == gens && recordLength(n) > room; p.Rotate || full && p.Take != 6 || !full && p.Take != 4 {
					t.Errorf("generation %d, %d bytes left, a Put of %d: %s", num, room, n, briefPlan(p))
				}
			}
		}
	}
}

// Promise 15.1 and 15.2: a Put fits up to Limit exactly; if it does not, a new
// generation is needed, or there is none.
func TestPutOfEachLength(t *testing.T) {
	for n := 0; n <= maxPayload; n += 1 + n%5*5 {
		for _, limit := range []int64{minLimit, minLimit + 1, 5007} {
			end := (limit - recordLength(n)) / 8 * 8
			for _, d := range []int64{-8, 0, 8} {
				if end+d < superSize {
					continue
				}
				for _, num := range []int{1, 7, 8} {
					want := plan{Take: 1, Needles: []api.Needle{live(put(4, 4, n))}, Results: []errno{api.OK}}
					if d > 0 && num < gens {
						want = plan{Rotate: true}
					} else if d > 0 {
						want = plan{Take: 1, Results: []errno{api.ErrFull}}
					}
					checkPlan(t, fmt.Sprintf("a Put of %d bytes", n), sized(num, limit, end+d), want, put(4, 4, n))
				}
			}
		}
	}
}

func TestTooLarge(t *testing.T) {
	for _, s := range []store{three(), sized(1, 5000, 5000), sized(1, 5000, 10000), sized(8, 5000, 5000), sized(8, 200000, 16)} {
		for _, n := range []int{4097, 4098, 8192, 1 << 16, 1<<16 + 1, 1 << 20} {
			checkPlan(t, "too large", s, plan{Take: 1, Results: []errno{api.ErrTooLarge}}, put(3, 36, n))
			checkAlone(t, "too large", s, drop(3, 36), put(3, 36, n), put(3, 36, 9), put(3, 36, n))
		}
	}
}

// Whether a Put fits depends on the requests before it, also on those that replace
// items, and on tombstones; Deletes in earlier generations need no room.
func TestRoomAfterOtherRequests(t *testing.T) {
	for num := 2; num <= gens; num++ {
		for room := int64(0); room <= 200; room += 8 {
			l := with(num, writable, 3, 4)
			s := store{Limit: 5000, Gens: []gen{with(1, sealed, 1, 2, 3), of(num, writable, 5000-room, itemsOf(l)...)}}
			for _, r := range [][]req{
				{put(5, 5, 0), put(5, 5, 0), put(5, 5, 0), put(5, 5, 8)},
				{put(3, 1, 0), put(3, 1, 40), drop(3, 1), put(3, 2, 1), drop(4, cookie(4, num))},
				{drop(3, cookie(3, num)), put(3, 5, 8), put(4, 5, 80), drop(4, cookie(4, num)), put(4, 5, 16)},
				{drop(1, 11), drop(2, 21), drop(1, 11), put(1, 1, 32), put(2, 2, 32), put(2, 2, 100)},
				{put(9, 9, 40), put(8, 8, 24), put(7, 7, 8), put(6, 6, 0), drop(9, 9), drop(6, 6)},
				{{}, put(9, 9, 4097), put(9, 9, 100), put(9, 9, 0)},
			} {
				for i := range r {
					checkMake(t, "room", s, r[i:]...)
					p := checkMake(t, "room", s, r[:i+1]...)
					if p.Rotate && (num == gens || p.Take > 0) || num == gens && p.Take != i+1 {
						t.Errorf("%d bytes of room in generation %d: %s", room, num, briefPlan(p))
					}
				}
			}
		}
	}
}

// Rotate is true only before the first request; the plan behind it is empty.
func TestRotate(t *testing.T) {
	large := put(9, 9, 4096)
	for _, s := range []store{sized(1, 5000, 4000), sized(7, 5000, 5000), sized(3, 5000, 10000), three(), spread(4, 7)} {
		s.Gens = slices.Clone(s.Gens)
		last := len(s.Gens) - 1
		s.Gens[last] = of(s.Gens[last].Num, writable, max(s.Gens[last].Size, 4000), itemsOf(s.Gens[last])...)
		s.Limit = 5000
		for _, behind := range [][]req{nil, {large}, {put(1, 1, 0)}, {drop(1, 12), drop(3, 36), {}}} {
			checkPlan(t, "first", s, plan{Rotate: true}, append([]req{large}, behind...)...)
			checkPlan(t, "second", s, plan{Take: 1, Results: []errno{api.ErrNone}}, append([]req{drop(99, 9), large}, behind...)...)
			checkPlan(t, "second", s, plan{Take: 1, Results: []errno{api.ErrArg}}, append([]req{{}, large}, behind...)...)
			checkPlan(t, "second", s, plan{Take: 1, Results: []errno{api.ErrTooLarge}}, append([]req{put(9, 9, 4097), large}, behind...)...)
		}
	}
}

// A Delete needs no room: also in a file with exactly the room for tombstones of its
// items, and none for anything else.
func TestTombstonesNeedNoRoom(t *testing.T) {
	for _, limit := range []int64{minLimit, minLimit + 2, 5000} {
		for _, num := range []int{1, 8} {
			var l []api.Item
			var r []req
			for key := range uint64(100) {
				l = append(l, api.Item{Key: key * 7, Cookie: 9, Off: superSize + tombstone*int64(key)})
				r = append(r, drop(key*7, 9))
			}
			s := store{Limit: limit, Gens: []gen{of(num, writable, 2*limit/8*8-100*tombstone, l...)}}
			for len(r) > 0 {
				p := checkMake(t, "tombstones", s, r...)
				if p.Take != min(maxBatch, len(r)) || len(p.Needles) != p.Take || slices.ContainsFunc(p.Results, func(e errno) bool { return e != api.OK }) {
					t.Fatalf("tombstones: %s", briefPlan(p))
				}
				s, _ = batch.Apply(s, p)
				r = r[p.Take:]
			}
			if len(slot.Items(s)) != 0 || s.Gens[0].Size != 2*limit/8*8 {
				t.Errorf("all items deleted: %s", brief(s))
			}
		}
	}
}

func TestMakeInInvalidSlots(t *testing.T) {
	for _, s := range badSlots(t) {
		for _, l := range [][]req{nil, {}, {{}}, {drop(1, 1)}, {put(1, 1, 1)}, {put(1, 1, 4097)}, {put(1, 1, 4096), drop(3, 36)}} {
			if p, e := batch.Make(s, l); e != api.ErrArg || !samePlan(p, plan{}) {
				t.Errorf("Make of %s in %s: %s, %v", briefRequests(l), brief(s), briefPlan(p), e)
			}
		}
	}
}

func TestMakeOfNothing(t *testing.T) {
	for _, s := range []store{three(), spread(8, 8), sized(1, 5000, 10000), sized(8, 5000, 10000)} {
		checkPlan(t, "nil", s, plan{})
		checkPlan(t, "empty", s, plan{}, []req{}...)
	}
}

// Promise 15.3.

func TestBytes(t *testing.T) {
	large, odd := api.Needle{Data: make([]byte, 4097)}, api.Needle{Deleted: true, Data: []byte{1}}
	both := api.Needle{Deleted: true, Data: make([]byte, 4097)}
	fine := []api.Needle{{}, gone(1, 2), live(put(3, 4, 5)), live(put(math.MaxUint64, math.MaxUint32, 4096)), {Key: 5, Data: []byte{}}}
	var all []plan
	for i := range fine {
		for j := range fine {
			all = append(all, plan{Needles: []api.Needle{fine[i], fine[j]}}, plan{Needles: fine[min(i, j):max(i, j)]})
		}
		for _, bad := range []api.Needle{large, odd, both} {
			for _, other := range []api.Needle{large, odd, both, fine[i]} {
				all = append(all, plan{Needles: append(fine[:i:i], bad, other)}, plan{Needles: []api.Needle{other, fine[i], bad}})
			}
		}
	}
	for n := range maxPayload {
		all = append(all, plan{Needles: []api.Needle{fine[n%2], live(put(uint64(n), uint32(n)*77777, n))}})
	}
	for _, p := range all {
		checkBytes(t, "only needles", p)
		p.Rotate, p.Take, p.Kills, p.Results = true, -3, []kill{{9, []uint64{1}}}, []errno{api.ErrFull}
		checkBytes(t, "with the rest of a plan", p)
	}
	long := slices.Repeat([]api.Needle{live(put(1, 2, 4096)), gone(3, 4)}, 200)
	checkBytes(t, "many", plan{Needles: long})
	checkBytes(t, "many, and one that is too large", plan{Needles: append(long, large)})
	checkBytes(t, "none", plan{})
}

func TestApplyToInvalidSlots(t *testing.T) {
	for _, s := range badSlots(t) {
		for _, p := range []plan{{}, {Rotate: true}, {Kills: []kill{{99, nil}}}, {Kills: []kill{{1, []uint64{1}}}}, {Needles: []api.Needle{gone(1, 1)}}, {Take: 1, Results: []errno{api.OK}}} {
			x, e := batch.Apply(s, p)
			checkSlot(t, "Apply to an invalid slot", x, e, store{}, api.ErrArg)
		}
	}
}

// Each error alone and with those behind it, at each place. With Rotate nothing else
// of a plan matters.
func TestApplyErrors(t *testing.T) {
	none, state, fine := kill{3, []uint64{1}}, kill{6, []uint64{3}}, kill{5, []uint64{5, 77}}
	large, odd := api.Needle{Data: make([]byte, 4097)}, api.Needle{Deleted: true, Data: []byte{1}}
	block := api.Needle{Key: 1, Data: make([]byte, 4096)}
	kills := [][]kill{nil, {fine}, {none}, {state}, {none, state}, {state, none}, {fine, none}, {fine, state}, {fine, none, state}, {{6, nil}}, {{3, nil}}, {{0, nil}}, {{-5, nil}}, {{1<<32 + 5, nil}}, {{5, nil}, {2, nil}}, {fine, fine}, {{2, []uint64{1}}, fine, {2, []uint64{2}}}}
	needles := [][]api.Needle{nil, {gone(3, 36)}, {large}, {odd}, {gone(3, 36), large}, {block}, {block, block}, {block, block, block}, slices.Repeat([]api.Needle{block}, 253), slices.Repeat([]api.Needle{block}, 254), slices.Repeat([]api.Needle{block}, 255), append(slices.Repeat([]api.Needle{block}, 300), odd)}
	for _, s := range []store{three(), sized(6, 5000, 5000), sized(8, maxLimit, 16)} {
		for _, k := range kills {
			for _, l := range needles {
				for _, rotate := range []bool{false, true} {
					p := plan{Rotate: rotate, Take: 5, Kills: k, Needles: l, Results: []errno{api.ErrNone}}
					checkApply(t, "errors", s, p)
				}
			}
		}
	}
}

// The last generation may grow up to 2 * Limit with the room for its tombstones.
func TestApplyUpToTheEnd(t *testing.T) {
	for _, limit := range []int64{minLimit, minLimit + 3, 5000} {
		for n := range int64(20) {
			for _, deleted := range []bool{false, true} {
				most := 2 * limit / 8 * 8
				var l []api.Needle
				for key := range uint64(n) {
					l = append(l, api.Needle{Key: key, Deleted: deleted})
				}
				need := tombstone * n
				if !deleted {
					need *= 2
				}
				for _, d := range []int64{-8, 0, 8} {
					if size := most - need + d; size <= 2*limit {
						checkApply(t, "near to the end", sized(4, limit, size), plan{Needles: l})
					}
				}
			}
		}
	}
}

func TestApplyByHand(t *testing.T) {
	s := three()
	p := plan{Kills: []kill{{2, []uint64{1, 3, 99}}, {5, []uint64{5}}}, Needles: []api.Needle{gone(6, 0), {Key: 8, Cookie: 7, Data: []byte("data")}}}
	x, e := batch.Apply(s, p)
	if e != api.OK || len(x.Gens) != 3 || x.ID != 3 || x.Limit != 5000 {
		t.Fatalf("Apply: %s, %v", brief(x), e)
	}
	for key, want := range map[uint64]int{1: 0, 2: 5, 3: 6, 4: 6, 5: 0, 6: 0, 8: 6} {
		if at, ok := slot.Find(x, key); ok != (want > 0) || at.Gen != want {
			t.Errorf("key %d is in generation %d", key, at.Gen)
		}
	}
	if at, _ := slot.Find(x, 8); at.Item != (api.Item{Key: 8, Cookie: 7, Off: s.Gens[2].Size + 24, Size: 4}) || x.Gens[2].Size != s.Gens[2].Size+56 {
		t.Errorf("the new item: %v", at.Item)
	}
	if l := slot.Older(x, 3); !slices.Equal(l, []int{5}) {
		t.Errorf("generations with key 3: %v", l)
	}
	x, e = batch.Apply(s, plan{Rotate: true, Kills: p.Kills, Needles: p.Needles})
	if e != api.OK || len(x.Gens) != 4 || x.Gens[2].Mode != frozen || x.Gens[2].Size != s.Gens[2].Size || x.Gens[3].Num != 7 || len(slot.Items(x)) != len(slot.Items(s)) {
		t.Errorf("Apply with Rotate: %s, %v", brief(x), e)
	}
}

func TestApplyRotate(t *testing.T) {
	for last := 1; last <= gens; last++ {
		x, e := batch.Apply(spread(min(last, 3), last), plan{Rotate: true})
		if last == gens {
			checkSlot(t, "the last generation", x, e, store{}, api.ErrFull)
		} else if top, _ := slot.Top(x); e != api.OK || top.Num != last+1 {
			t.Errorf("generation %d: %s, %v", last, brief(x), e)
		}
	}
}

// Results share no memory with arguments, and parts of a result none with each other.
func TestResultsAreMemoryOfTheirOwn(t *testing.T) {
	s, l := spread(3, 3), []req{put(9, 9, 9), drop(7, 73), drop(3, 32), put(9, 8, 20), put(9, 8, 0)}
	l[3].Data = l[0].Data
	beforeS, beforeL := copied(s), copiedRequests(l)
	p, _ := batch.Make(s, l)
	b, _ := batch.Bytes(p)
	want := bytes.Clone(b)
	next, _ := batch.Apply(s, p)
	after := copied(next)
	clear(p.Needles[0].Data)
	if !bytes.Equal(p.Needles[2].Data, l[0].Data) {
		t.Error("two needles share their Data")
	}
	clear(p.Needles[2].Data)
	for _, k := range p.Kills {
		clear(k.Keys)
		if slices.Contains(append(k.Keys, 99), 7) {
			t.Error("two Kills share their Keys")
		}
	}
	clear(p.Needles)
	clear(p.Results)
	if !sameSlot(s, beforeS) || !slices.EqualFunc(l, beforeL, sameRequest) || !bytes.Equal(b, want) || !sameSlot(next, after) {
		t.Error("a change of a plan is a change of something else")
	}
}

// Promise 15.4, and 15.1 to 15.3 with it: random histories beside a plain map.

func TestRandomHistories(t *testing.T) {
	r := rand.New(rand.NewSource(2))
	for round := range 20 {
		s, _ := slot.New(round%4, minLimit+r.Int63n(4000))
		plain := map[uint64]uint32{}
		queue := []req{}
		for range 40 {
			for range r.Intn(30) {
				queue = append(queue, anyRequest(r, plain))
			}
			p := checkMake(t, "a history", s, queue...)
			checkAlone(t, "a history", s, queue...)
			checkResults(t, s, p, queue, plain)
			next, e := batch.Apply(s, p)
			if e != api.OK || t.Failed() {
				t.Fatalf("the %s cannot be applied: %v", briefPlan(p), e)
			}
			s, queue = next, queue[p.Take:]
			if r.Intn(4) == 0 {
				s = maintained(r, s)
			}
			checkItems(t, s, plain)
		}
	}
}

// anyRequest returns a request for one of a few keys, often with its cookie.
func anyRequest(r *rand.Rand, plain map[uint64]uint32) req {
	key := uint64(r.Intn(12))
	if r.Intn(3) > 0 {
		n := []int{0, r.Intn(20), r.Intn(400), r.Intn(5000)}[r.Intn(4)]
		return put(key, uint32(r.Intn(4)), n)
	}
	if c, ok := plain[key]; ok && r.Intn(3) > 0 {
		return drop(key, c)
	}
	return req{Kind: 1 + r.Intn(3), Key: key, Cookie: uint32(r.Intn(4))}
}

// checkResults compares the results of a plan with those of a plain map, which has
// the effects then.
func checkResults(t *testing.T, s store, p plan, l []req, plain map[uint64]uint32) {
	t.Helper()
	for i, e := range p.Results {
		r := l[i]
		c, ok := plain[r.Key]
		want := api.OK
		switch {
		case r.Kind == 3:
			want = api.ErrArg
		case r.Kind == 1 && len(r.Data) > maxPayload:
			want = api.ErrTooLarge
		case r.Kind == 1 && e == api.ErrFull && s.Gens[len(s.Gens)-1].Num == gens:
			want = api.ErrFull
		case r.Kind == 1:
			plain[r.Key] = r.Cookie
		case !ok || c != r.Cookie:
			want = api.ErrNone
		default:
			delete(plain, r.Key)
		}
		if e != want {
			t.Errorf("%s has the result %v, want %v", briefRequests(l[i:i+1]), e, want)
		}
	}
}

func checkItems(t *testing.T, s store, plain map[uint64]uint32) {
	t.Helper()
	l := slot.Items(s)
	for _, x := range l {
		if c, ok := plain[x.Key]; !ok || c != x.Cookie {
			t.Errorf("key %d has cookie %d in the slot, and %d, %v in the plain map", x.Key, x.Cookie, c, ok)
		}
	}
	if len(l) != len(plain) {
		t.Errorf("%d items, %d in the plain map", len(l), len(plain))
	}
}

// maintained returns s after a compaction of its last generation, or after one of the
// others was sealed.
func maintained(r *rand.Rand, s store) store {
	i := r.Intn(len(s.Gens))
	g := s.Gens[i]
	if g.Mode == frozen {
		g, _ = generation.Seal(g)
	}
	if g.Mode == writable {
		size, moved := int64(superSize), itemsOf(g)
		for j := range moved {
			moved[j].Off = size
			size += recordLength(moved[j].Size)
		}
		g, _ = generation.Swap(g, g.Rev+1, size, of(1, writable, size, moved...).Map)
	}
	next, e := slot.Change(s, g)
	if e != api.OK {
		panic("the maintenance went wrong")
	}
	return next
}

// Large plans: many requests whose records are long and short, in slots with much
// room, planned again and again until all have been.
func TestRandomPlansOfLargeRecords(t *testing.T) {
	r := rand.New(rand.NewSource(3))
	for round := range 150 {
		s := spread(3, 4+round%5)
		s.Limit = 10000 + r.Int63n(60000)
		var l []req
		for range 60 {
			switch key := uint64(r.Intn(10)); r.Intn(4) {
			case 0:
				l = append(l, drop(key, cookie(key, 2+round%5+r.Intn(3))))
			case 1:
				l = append(l, put(key, cookie(key, 3), 4000+r.Intn(100)))
			case 2:
				l = append(l, drop(key, cookie(key, 3)))
			case 3:
				l = append(l, put(key, cookie(key, 3), r.Intn(1<<r.Intn(13))))
			}
		}
		for len(l) > 0 {
			p := checkMake(t, "large records", s, l...)
			next, e := batch.Apply(s, p)
			if e != api.OK || p.Take == 0 && !p.Rotate {
				t.Fatalf("%s, %v", briefPlan(p), e)
			}
			s, l = next, l[p.Take:]
		}
	}
}

// Bytes are the records that package needle reads.
func TestBytesAreRecords(t *testing.T) {
	p := checkMake(t, "some", three(), put(1, 2, 3), drop(3, 36), put(4, 5, 4096), drop(1, 2))
	b, _ := batch.Bytes(p)
	for i, want := range p.Needles {
		x, n, e := needle.Decode(b)
		if e != api.OK || !sameNeedle(x, want) {
			t.Fatalf("record %d: %v, %v", i, x, e)
		}
		b = b[n:]
	}
	if len(b) > 0 {
		t.Errorf("%d bytes behind the records", len(b))
	}
}
