package batch_test

import (
	"fmt"
	"maps"
	"math/rand"
	"slices"
	"testing"

	"needlestore/api"
	"needlestore/batch"
	"needlestore/journal"
	"needlestore/needle"
	"needlestore/scan"
	"needlestore/slot"
	"needlestore/superblock"
)

// Promise 15.5: what a power failure leaves of a batch, on the files of a slot.

// files are a slot with the contents of its dat files and journals.
type files struct {
	s    store
	dats map[int][]byte
	dels map[int][]byte
}

// write is a write of a batch: to the journal or to the dat file of a generation.
type write struct {
	dat  bool
	gen  int
	data []byte
}

// newFiles returns a new slot with the file of its generation.
func newFiles(t *testing.T, limit int64) *files {
	t.Helper()
	s, e := slot.New(1, limit)
	if e != api.OK {
		t.Fatal(e)
	}
	f := &files{s: s, dats: map[int][]byte{}, dels: map[int][]byte{}}
	f.begin(t)
	return f
}

// begin makes the file of the last generation.
func (f *files) begin(t *testing.T) {
	t.Helper()
	top, _ := slot.Top(f.s)
	b, e := superblock.Encode(api.Super{Slot: f.s.ID, Gen: top.Num})
	if e != api.OK {
		t.Fatal(e)
	}
	f.dats[top.Num] = b
}

// rotate begins a new generation.
func (f *files) rotate(t *testing.T) {
	t.Helper()
	s, e := batch.Apply(f.s, plan{Rotate: true})
	if e != api.OK {
		t.Fatal(e)
	}
	f.s = s
	f.begin(t)
}

// writes returns what a batch writes, in this order.
func (f *files) writes(t *testing.T, p plan) []write {
	t.Helper()
	var l []write
	for _, k := range p.Kills {
		l = append(l, write{false, k.Gen, journal.Encode(k.Keys)})
	}
	b, e := batch.Bytes(p)
	top, _ := slot.Top(f.s)
	if e != api.OK || int64(len(f.dats[top.Num])) != top.Size {
		t.Fatalf("%v, %d bytes, %s", e, len(f.dats[top.Num]), brief(f.s))
	}
	return append(l, write{true, top.Num, b})
}

// prefix returns the files after the first n bytes of what a batch writes.
func (f *files) prefix(l []write, n int) *files {
	x := &files{s: f.s, dats: map[int][]byte{}, dels: map[int][]byte{}}
	for num, b := range f.dats {
		x.dats[num] = b
	}
	for num, b := range f.dels {
		x.dels[num] = b
	}
	for _, w := range l {
		part := w.data[:min(n, len(w.data))]
		n -= len(part)
		if w.dat {
			x.dats[w.gen] = slices.Concat(x.dats[w.gen], part)
		} else {
			x.dels[w.gen] = slices.Concat(x.dels[w.gen], part)
		}
	}
	return x
}

// needles returns the needle of each key that the files have: the records in front of
// the first one that is not whole, without the keys of the journals.
func (f *files) needles(t *testing.T) map[uint64]api.Needle {
	t.Helper()
	all := map[uint64]api.Needle{}
	for num := 1; num <= gens; num++ {
		b, ok := f.dats[num]
		if !ok {
			continue
		}
		_, records, _, e := scan.Open(b)
		if e != api.OK {
			t.Fatalf("generation %d: %v", num, e)
		}
		lost, _ := journal.Decode(f.dels[num])
		for _, x := range scan.Items(records) {
			if slices.Contains(lost, x.Key) {
				continue
			}
			n, _, e := needle.Decode(b[x.Off:])
			if e != api.OK {
				t.Fatalf("generation %d, key %d: %v", num, x.Key, e)
			}
			all[x.Key] = n
		}
	}
	return all
}

// states returns, for each of some keys, the states that it has one after the other:
// before the first request, and after each request for it that has a result. An
// empty text is no needle.
func states(before map[uint64]api.Needle, keys []uint64, l []req, results []errno) map[uint64][]string {
	all := map[uint64][]string{}
	for _, key := range keys {
		all[key] = []string{state(before, key)}
	}
	for i, e := range results {
		r := l[i]
		old := all[r.Key]
		now := old[len(old)-1]
		switch {
		case e != api.OK:
		case r.Kind == 1:
			now = text(live(r))
		default:
			now = ""
		}
		all[r.Key] = append(old, now)
	}
	return all
}

// state returns the needle of a key as a text.
func state(all map[uint64]api.Needle, key uint64) string {
	if x, ok := all[key]; ok {
		return text(x)
	}
	return ""
}

func text(x api.Needle) string { return fmt.Sprintf("%d/%d: %x", x.Key, x.Cookie, x.Data) }

// checkPrefixes checks 15.5 for the plan of some requests, for power failures after
// each number of bytes, or, in long plans, near to the ends of entries and records.
// The files have the batch then.
func checkPrefixes(t *testing.T, what string, f *files, l ...req) {
	t.Helper()
	p := checkMake(t, what, f.s, l...)
	if p.Rotate {
		f.rotate(t)
		return
	}
	before := f.needles(t)
	keys := slices.Collect(maps.Keys(before))
	for _, r := range l {
		keys = append(keys, r.Key)
	}
	all := states(before, keys, l, p.Results)
	writes, whole := f.writes(t, p), 0
	for _, w := range writes {
		whole += len(w.data)
	}
	for n := 0; n <= whole; n++ {
		if whole > 2000 && n%12 > 1 && n%8 > 1 && n != whole {
			continue
		}
		now := f.prefix(writes, n).needles(t)
		for key, l := range all {
			if !slices.Contains(l, state(now, key)) {
				t.Errorf("%s: after %d of %d bytes of the %s, key %d is in the state %q, which is none of %q", what, n, whole, briefPlan(p), key, state(now, key), l)
			}
			if n == whole && state(now, key) != l[len(l)-1] {
				t.Errorf("%s: after the %s, key %d is in the state %q, want %q", what, briefPlan(p), key, state(now, key), l[len(l)-1])
			}
		}
		if len(now) > len(all) {
			t.Errorf("%s: needles %v", what, now)
		}
	}
	next, e := batch.Apply(f.s, p)
	after := f.prefix(writes, whole)
	if e != api.OK || len(slot.Items(next)) != len(after.needles(t)) {
		t.Fatalf("%s: %s, %v", what, brief(next), e)
	}
	f.s, f.dats, f.dels = next, after.dats, after.dels
}

// All short sequences for a key that each set of three generations has, with another
// key in all of them.
func TestPrefixesOfShortSequences(t *testing.T) {
	for set := range 8 {
		f := newFiles(t, 5000)
		for i := range 3 {
			if i > 0 {
				f.rotate(t)
			}
			l := []req{put(2, 20, i)}
			if set>>i&1 != 0 {
				l = append(l, put(1, uint32(10+i), i))
			}
			checkPrefixes(t, "the generations", f, l...)
		}
		other := []req{drop(2, 20), put(2, 21, 1)}
		sequences([]req{put(1, 5, 3), put(1, 12, 0), drop(1, 5), drop(1, 10), drop(1, 11), drop(1, 12)}, 3, func(l []req) {
			for i := range other {
				again := *f
				checkPrefixes(t, fmt.Sprintf("the key of the set %b", set), &again, slices.Insert(slices.Clone(l), len(l)/2, other[:i+1]...)...)
			}
		})
	}
}

// Random batches one after the other, with a new generation now and then: also such
// that delete keys from many generations.
func TestPrefixesOfRandomBatches(t *testing.T) {
	r := rand.New(rand.NewSource(4))
	for round := range 12 {
		f := newFiles(t, 5000)
		for batches := range 30 {
			if batches%4 == 3 && slot.CanRotate(f.s) {
				f.rotate(t)
			}
			var l []req
			for range 1 + r.Intn(18) {
				key := uint64(r.Intn(4 + round))
				switch r.Intn(3) {
				case 0:
					l = append(l, put(key, uint32(r.Intn(2)), r.Intn(10)))
				default:
					l = append(l, drop(key, uint32(r.Intn(2))))
				}
			}
			checkPrefixes(t, "a random batch", f, l...)
		}
	}
}
