package batch_test

import (
	"bytes"
	"encoding/binary"
	"fmt"
	"hash/crc32"
	"maps"
	"slices"
	"testing"

	"needlestore/api"
	"needlestore/batch"
	"needlestore/generation"
	"needlestore/nmap"
	"needlestore/slot"
)

// This file has the chapter word for word, on plain maps of the items of each
// generation, and the slots and requests on which the program is compared with it.
// The numbers are written out, so that changed constants are noticed.

const (
	writable, frozen, sealed = 1, 2, 3

	gens          = 8
	superSize     = 16
	tombstone     = 24
	maxPayload    = 4096
	minLimit      = 4136
	maxLimit      = 262144
	maxFile       = 1048576
	maxBatch      = 16
	maxBatchBytes = 16384
)

type (
	store = slot.Slot
	gen   = generation.Gen
	req   = batch.Req
	plan  = batch.Plan
	kill  = batch.Kill
	errno = api.Errno
)

// volume is a generation as plain data.
type volume struct {
	num, mode int
	rev, size int64
	items     map[uint64]api.Item
}

// model is a slot as plain data.
type model struct {
	s    store
	vols []*volume
}

// modelOf returns a valid slot as plain data, in memory of its own.
func modelOf(s store) *model {
	m := &model{s: s}
	for _, g := range s.Gens {
		v := &volume{num: g.Num, mode: g.Mode, rev: g.Rev, size: g.Size, items: map[uint64]api.Item{}}
		for _, x := range nmap.Items(g.Map) {
			v.items[x.Key] = x
		}
		m.vols = append(m.vols, v)
	}
	return m
}

// store returns the slot that m is.
func (m *model) store() store {
	s := m.s
	s.Gens = nil
	for _, v := range m.vols {
		g := of(v.num, v.mode, v.size, slices.Collect(maps.Values(v.items))...)
		g.Rev = v.rev
		s.Gens = append(s.Gens, g)
	}
	return s
}

func (m *model) last() *volume { return m.vols[len(m.vols)-1] }

// fits is the condition of 13.4.
func (m *model) fits(n int) bool { return m.last().size+recordLength(n) <= m.s.Limit }

// canRotate is the condition of 13.4.
func (m *model) canRotate() bool { return m.last().num < gens }

// current returns the current item of a key.
func (m *model) current(key uint64) (api.Item, bool) {
	for _, v := range slices.Backward(m.vols) {
		if x, ok := v.items[key]; ok {
			return x, true
		}
	}
	return api.Item{}, false
}

// append has the effect of a needle that is added to the last generation.
func (m *model) append(x api.Needle) {
	v := m.last()
	delete(v.items, x.Key)
	if !x.Deleted {
		v.items[x.Key] = api.Item{Key: x.Key, Cookie: x.Cookie, Off: v.size, Size: len(x.Data)}
	}
	v.size += recordLength(len(x.Data))
}

// request is 15.2 word for word, without the effects: the result of a request, its
// needle, if it has one, and the numbers of the generations that lose the key.
func (m *model) request(r req) (result errno, l []api.Needle, lose []int) {
	switch r.Kind {
	case 1:
		if len(r.Data) > maxPayload {
			return api.ErrTooLarge, nil, nil
		}
		if !m.fits(len(r.Data)) {
			return api.ErrFull, nil, nil
		}
		return api.OK, []api.Needle{{Key: r.Key, Cookie: r.Cookie, Data: r.Data}}, nil
	case 2:
		x, ok := m.current(r.Key)
		if !ok || x.Cookie != r.Cookie {
			return api.ErrNone, nil, nil
		}
		for _, v := range m.vols {
			if _, ok := v.items[r.Key]; ok && v.mode != writable {
				lose = append(lose, v.num)
			} else if ok {
				l = []api.Needle{{Key: r.Key, Cookie: r.Cookie, Deleted: true}}
			}
		}
		return api.OK, l, lose
	}
	return api.ErrArg, nil, nil
}

// planned is 15.1 word for word, with the effects of 15.2. It returns the plan and t.
func planned(s store, l []req) (plan, store, errno) {
	if !slot.Valid(s) {
		return plan{}, store{}, api.ErrArg
	}
	m, p := modelOf(s), plan{}
	var written int64
	keys := map[int][]uint64{}
	for i, r := range l {
		if i == maxBatch {
			break
		}
		if r.Kind == 1 && len(r.Data) <= maxPayload && !m.fits(len(r.Data)) && m.canRotate() {
			p.Rotate = i == 0
			break
		}
		result, x, lose := m.request(r)
		if len(x) > 0 && len(p.Needles) > 0 && written+recordLength(len(x[0].Data)) > maxBatchBytes {
			break
		}
		p.Take++
		p.Results = append(p.Results, result)
		for _, num := range lose {
			keys[num] = append(keys[num], r.Key)
			for _, v := range m.vols {
				if v.num == num {
					delete(v.items, r.Key)
				}
			}
		}
		for _, x := range x {
			p.Needles = append(p.Needles, x)
			written += recordLength(len(x.Data))
			m.append(x)
		}
	}
	for _, num := range slices.Sorted(maps.Keys(keys)) {
		p.Kills = append(p.Kills, kill{Gen: num, Keys: keys[num]})
	}
	return p, m.store(), api.OK
}

// encoded is the first sentence of 15.3 word for word.
func encoded(p plan) ([]byte, errno) {
	var b []byte
	for _, x := range p.Needles {
		if len(x.Data) > maxPayload {
			return nil, api.ErrTooLarge
		}
		if x.Deleted && len(x.Data) > 0 {
			return nil, api.ErrArg
		}
		b = append(b, record(x)...)
	}
	return b, api.OK
}

// applied is the rest of 15.3 word for word, with the errors of the packages below.
func applied(s store, p plan) (store, errno) {
	if !slot.Valid(s) {
		return store{}, api.ErrArg
	}
	if p.Rotate {
		return slot.Rotate(s)
	}
	m := modelOf(s)
	for _, k := range p.Kills {
		i := slices.IndexFunc(m.vols, func(v *volume) bool { return v.num == k.Gen })
		if i < 0 {
			return store{}, api.ErrNone
		}
		if m.vols[i].mode == writable {
			return store{}, api.ErrState
		}
		for _, key := range k.Keys {
			delete(m.vols[i].items, key)
		}
	}
	for _, x := range p.Needles {
		if len(x.Data) > maxPayload || x.Deleted && len(x.Data) > 0 {
			return store{}, api.ErrArg
		}
	}
	for _, x := range p.Needles {
		m.append(x)
	}
	v := m.last()
	if v.size > maxFile {
		return store{}, api.ErrFull
	}
	if v.size+tombstone*int64(len(v.items)) > 2*s.Limit {
		return store{}, api.ErrArg
	}
	return m.store(), api.OK
}

// recordLength is the length of the record of a needle with n bytes of data: header,
// data and checksum, and then bytes up to a multiple of 8.
func recordLength(n int) int64 {
	sum := int64(20 + n + 4)
	for sum%8 != 0 {
		sum++
	}
	return sum
}

// record is the record of a needle.
func record(x api.Needle) []byte {
	kind := byte(0)
	if x.Deleted {
		kind = 1
	}
	b := []byte{78, 165, kind, 0}
	b = binary.BigEndian.AppendUint32(b, x.Cookie)
	b = binary.BigEndian.AppendUint64(b, x.Key)
	b = binary.BigEndian.AppendUint32(b, uint32(len(x.Data)))
	b = append(b, x.Data...)
	b = binary.LittleEndian.AppendUint32(b, crc32.Checksum(b, crc32.MakeTable(crc32.Castagnoli)))
	for len(b)%8 != 0 {
		b = append(b, 0)
	}
	return b
}

// of returns a generation with these items, in a file in which garbage is the rest.
// Each number and mode has revisions of its own.
func of(num, mode int, size int64, l ...api.Item) gen {
	m := nmap.From(l, 0)
	if len(l) > 0 && nmap.Len(m) == 0 {
		panic("an item is not valid")
	}
	m.Garbage = size - superSize - m.Live
	return gen{Num: num, Rev: int64(100*num + mode), Mode: mode, Size: size, Map: m}
}

// with returns a generation with these keys, the cookies of which are 10 times the
// key and the number of the generation, and with some garbage.
func with(num, mode int, keys ...uint64) gen {
	off := int64(superSize)
	var l []api.Item
	for i, key := range keys {
		x := api.Item{Key: key, Cookie: cookie(key, num), Off: off, Size: i % 3 * 5}
		l = append(l, x)
		off += recordLength(x.Size)
	}
	return of(num, mode, off+int64(8*num), l...)
}

// cookie returns the cookie of a key in a generation made by with.
func cookie(key uint64, num int) uint32 { return uint32(10*key + uint64(num)) }

// sized returns a slot of one generation with this number, without items and with a
// file of this size.
func sized(num int, limit, size int64) store {
	return store{ID: 1, Limit: limit, Gens: []gen{of(num, writable, size)}}
}

// modeAt returns a mode that a generation may have at a place behind which there
// are so many others.
func modeAt(behind int) int {
	switch {
	case behind == 0:
		return writable
	case behind%2 == 1:
		return frozen
	}
	return sealed
}

// spread returns a slot of n generations up to number last, where each set of them
// has a key of its own: the key of a set is its number.
func spread(n, last int) store {
	s := store{ID: 2, Limit: 9000}
	for i := range n {
		var keys []uint64
		for set := range uint64(1) << n {
			if set>>i&1 != 0 {
				keys = append(keys, set)
			}
		}
		s.Gens = append(s.Gens, with(last-n+1+i, modeAt(n-1-i), keys...))
	}
	return s
}

// put, of n bytes, and drop are requests.

func put(key uint64, cookie uint32, n int) req {
	data := make([]byte, n)
	for i := range data {
		data[i] = byte(int(key) + int(cookie)*7 + i)
	}
	return req{Ticket: int64(key) - 5, Kind: 1, Key: key, Cookie: cookie, Data: data}
}

func drop(key uint64, cookie uint32) req {
	return req{Ticket: int64(cookie), Kind: 2, Key: key, Cookie: cookie}
}

// changed returns s with one change, in memory of its own.
func changed(s store, f func(s *store)) store {
	s = copied(s)
	f(&s)
	return s
}

// badSlots returns slots that are not valid, each because of one thing.
func badSlots(t *testing.T) []store {
	t.Helper()
	l := []store{{}, {Limit: 5000}, {Gens: []gen{of(1, writable, superSize)}}}
	for _, s := range []store{sized(1, 5000, superSize), spread(2, 2), spread(3, 8)} {
		last := len(s.Gens) - 1
		add := func(f func(s *store)) { l = append(l, changed(s, f)) }
		for _, id := range []int{-1, 4, 1 << 32} {
			add(func(s *store) { s.ID = id })
		}
		for _, limit := range []int64{0, -5000, minLimit - 1, maxLimit + 1, 1 << 62} {
			add(func(s *store) { s.Limit = limit })
		}
		add(func(s *store) { s.Gens = nil })
		add(func(s *store) { s.Gens[last].Mode = frozen })
		add(func(s *store) { s.Gens[last].Num = 9 })
		add(func(s *store) { s.Gens[0].Num = 0 })
		add(func(s *store) { s.Gens[last].Size += 8 })
		add(func(s *store) { s.Gens[last].Rev = -1 })
		add(func(s *store) { s.Gens[0].Map.Live++ })
		add(func(s *store) { s.Gens = append(s.Gens[:last:last], s.Gens[last], s.Gens[last]) })
		add(func(s *store) { s.Gens[last] = of(s.Gens[last].Num, writable, 2*s.Limit+8) })
		if last > 0 {
			add(func(s *store) { s.Gens[0].Mode = writable })
			add(func(s *store) { s.Gens[0], s.Gens[last] = s.Gens[last], s.Gens[0] })
			add(func(s *store) { s.Gens = s.Gens[:last] })
		}
	}
	for i, s := range l {
		if slot.Valid(s) {
			t.Fatalf("number %d of the slots that are not valid is valid", i)
		}
	}
	return l
}

// copied returns s in memory of its own.
func copied(s store) store {
	s.Gens = slices.Clone(s.Gens)
	for i := range s.Gens {
		for j, l := range s.Gens[i].Map.Stripes {
			s.Gens[i].Map.Stripes[j] = slices.Clone(l)
		}
	}
	return s
}

// copiedRequests returns l in memory of its own.
func copiedRequests(l []req) []req {
	l = slices.Clone(l)
	for i := range l {
		l[i].Data = bytes.Clone(l[i].Data)
	}
	return l
}

// copiedPlan returns p in memory of its own.
func copiedPlan(p plan) plan {
	p.Kills, p.Needles, p.Results = slices.Clone(p.Kills), slices.Clone(p.Needles), slices.Clone(p.Results)
	for i := range p.Kills {
		p.Kills[i].Keys = slices.Clone(p.Kills[i].Keys)
	}
	for i := range p.Needles {
		p.Needles[i].Data = bytes.Clone(p.Needles[i].Data)
	}
	return p
}

func sameNeedle(a, b api.Needle) bool {
	return a.Key == b.Key && a.Cookie == b.Cookie && a.Deleted == b.Deleted && bytes.Equal(a.Data, b.Data)
}

func sameKill(a, b kill) bool { return a.Gen == b.Gen && slices.Equal(a.Keys, b.Keys) }

func sameRequest(a, b req) bool {
	return a.Ticket == b.Ticket && a.Kind == b.Kind && a.Key == b.Key && a.Cookie == b.Cookie && bytes.Equal(a.Data, b.Data)
}

// samePlan reports whether two plans are equal, where nil and empty lists are equivalent.
func samePlan(a, b plan) bool {
	return a.Rotate == b.Rotate && a.Take == b.Take && slices.EqualFunc(a.Kills, b.Kills, sameKill) &&
		slices.EqualFunc(a.Needles, b.Needles, sameNeedle) && slices.Equal(a.Results, b.Results)
}

func sameGen(a, b gen) bool {
	for s := range a.Map.Stripes {
		if !slices.Equal(a.Map.Stripes[s], b.Map.Stripes[s]) {
			return false
		}
	}
	return a.Num == b.Num && a.Rev == b.Rev && a.Mode == b.Mode && a.Size == b.Size && a.Map.Live == b.Map.Live && a.Map.Garbage == b.Map.Garbage
}

// sameSlot reports whether two slots are equal.
func sameSlot(a, b store) bool {
	return a.ID == b.ID && a.Limit == b.Limit && a.ReadOnly == b.ReadOnly && slices.EqualFunc(a.Gens, b.Gens, sameGen)
}

// brief, briefRequests and briefPlan return what their argument is, for messages.

func brief(s store) string {
	text := fmt.Sprintf("slot %d, Limit %d, ReadOnly %v:", s.ID, s.Limit, s.ReadOnly)
	for _, g := range s.Gens[:min(len(s.Gens), 10)] {
		text += fmt.Sprintf(" {%d, mode %d, Rev %d, Size %d, Live %d, Garbage %d:", g.Num, g.Mode, g.Rev, g.Size, g.Map.Live, g.Map.Garbage)
		n := 0
		for _, l := range g.Map.Stripes {
			for _, x := range l {
				if n++; n <= 8 {
					text += fmt.Sprintf(" %d/%d", x.Key, x.Cookie)
				}
			}
		}
		text += fmt.Sprintf(" (%d items)}", n)
	}
	return text
}

func briefRequests(l []req) string {
	var text string
	for _, r := range l[:min(len(l), 20)] {
		text += fmt.Sprintf(" {kind %d, %d/%d, %d bytes}", r.Kind, r.Key, r.Cookie, len(r.Data))
	}
	return fmt.Sprintf("%d requests:%s", len(l), text)
}

func briefPlan(p plan) string {
	text := fmt.Sprintf("plan: Rotate %v, Take %d, Kills %v, Results %v, Needles", p.Rotate, p.Take, p.Kills, p.Results)
	for _, x := range p.Needles {
		text += fmt.Sprintf(" {%d/%d, deleted %v, %d bytes}", x.Key, x.Cookie, x.Deleted, len(x.Data))
	}
	return text
}

// checkSlot compares a slot with what is wanted.
func checkSlot(t *testing.T, what string, s store, e errno, want store, wantE errno) {
	t.Helper()
	if !sameSlot(s, want) || e != wantE {
		t.Errorf("%s: %s, %v, want %s, %v", what, brief(s), e, brief(want), wantE)
	}
	if e == api.OK && !slot.Valid(s) {
		t.Errorf("%s: %s is not valid", what, brief(s))
	}
}

// checkBytes compares Bytes of a plan.
func checkBytes(t *testing.T, what string, p plan) {
	t.Helper()
	before := copiedPlan(p)
	b, e := batch.Bytes(p)
	want, wantE := encoded(p)
	if !bytes.Equal(b, want) || e != wantE {
		t.Errorf("%s: Bytes of the %s: %d bytes, %v, want %d, %v", what, briefPlan(p), len(b), e, len(want), wantE)
	}
	if !samePlan(p, before) {
		t.Errorf("%s: Bytes changed the %s", what, briefPlan(before))
	}
}

// checkApply compares Apply.
func checkApply(t *testing.T, what string, s store, p plan) {
	t.Helper()
	beforeS, beforeP := copied(s), copiedPlan(p)
	x, e := batch.Apply(s, p)
	want, wantE := applied(s, p)
	checkSlot(t, what+": Apply of the "+briefPlan(p)+" to "+brief(s), x, e, want, wantE)
	if !sameSlot(s, beforeS) || !samePlan(p, beforeP) {
		t.Errorf("%s: Apply changed its arguments: %s, %s", what, brief(beforeS), briefPlan(beforeP))
	}
}

// checkMake compares Make, and the results of Bytes and Apply for the plan. It
// returns the plan.
func checkMake(t *testing.T, what string, s store, l ...req) plan {
	t.Helper()
	beforeS, beforeL := copied(s), copiedRequests(l)
	p, e := batch.Make(s, l)
	want, after, wantE := planned(s, l)
	if !samePlan(p, want) || e != wantE {
		t.Errorf("%s: Make of %s in %s: %s, %v, want %s, %v", what, briefRequests(l), brief(s), briefPlan(p), e, briefPlan(want), wantE)
	}
	if !sameSlot(s, beforeS) || !slices.EqualFunc(l, beforeL, sameRequest) {
		t.Errorf("%s: Make changed its arguments: %s, %s", what, brief(beforeS), briefRequests(beforeL))
	}
	if e != api.OK || t.Failed() {
		return p
	}
	checkBytes(t, what, p)
	checkApply(t, what, s, p)
	if x, e := batch.Apply(s, p); !p.Rotate && (e != api.OK || !sameSlot(x, after)) {
		t.Errorf("%s: %s applied to %s: %s, %v, want t: %s", what, briefPlan(p), brief(s), brief(x), e, brief(after))
	}
	return p
}

// checkAlone checks 15.4: the requests of a plan have the same results, needles, keys
// and effects each of them alone in a batch.
func checkAlone(t *testing.T, what string, s store, l ...req) {
	t.Helper()
	p := checkMake(t, what, s, l...)
	want, e := batch.Apply(s, p)
	if e != api.OK {
		t.Errorf("%s: the %s cannot be applied to %s: %v", what, briefPlan(p), brief(s), e)
	}
	if p.Rotate {
		return
	}
	x, sum, keys := s, plan{}, map[int][]uint64{}
	for _, r := range l[:p.Take] {
		one, e := batch.Make(x, []req{r})
		if e != api.OK || one.Take != 1 || one.Rotate {
			t.Fatalf("%s: %s alone in %s: %s, %v", what, briefRequests([]req{r}), brief(x), briefPlan(one), e)
		}
		x, e = batch.Apply(x, one)
		if e != api.OK {
			t.Fatalf("%s: the %s cannot be applied to %s: %v", what, briefPlan(one), brief(x), e)
		}
		sum.Take++
		sum.Needles = append(sum.Needles, one.Needles...)
		sum.Results = append(sum.Results, one.Results...)
		for _, k := range one.Kills {
			keys[k.Gen] = append(keys[k.Gen], k.Keys...)
		}
	}
	for _, num := range slices.Sorted(maps.Keys(keys)) {
		sum.Kills = append(sum.Kills, kill{Gen: num, Keys: keys[num]})
	}
	if !samePlan(p, sum) || !sameSlot(x, want) {
		t.Errorf("%s: %s in %s: %s and %s together, %s and %s one by one", what, briefRequests(l), brief(s), briefPlan(p), brief(want), briefPlan(sum), brief(x))
	}
}

// itemsOf returns the items of a generation.
func itemsOf(g gen) []api.Item { return nmap.Items(g.Map) }
