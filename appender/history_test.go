package appender_test

import (
	"fmt"
	"math/rand"
	"slices"
	"testing"

	"needlestore/api"
	"needlestore/appender"
	"needlestore/batch"
	"needlestore/disk"
	"needlestore/generation"
	"needlestore/journal"
	"needlestore/needle"
	"needlestore/nmap"
	"needlestore/scan"
	"needlestore/slot"
)

// Promise 16.5: histories of a slot with its disk, beside a slot in which the same
// requests are planned one after the other, each of them alone.

// plenty is the number of operations before the power fails, from which each operation
// takes one.
const plenty = 1 << 40

// run is a slot with its disk and its appender.
type run struct {
	t *testing.T
	d disk.Disk
	s store
	a state

	asked    []req // those that were submitted: the first one has ticket 1
	answered int   // how many of them were answered
	alone    store // the slot after these, one after the other

	// keys are those of all requests, and needles those that are there after the
	// requests that were answered.
	keys    map[uint64]bool
	needles map[uint64]string
}

// newRun returns a new slot with its file.
func newRun(t *testing.T, id int, limit int64) *run {
	t.Helper()
	s, e := slot.New(id, limit)
	if e != api.OK {
		t.Fatal(e)
	}
	d := disk.Disk{Left: plenty, Files: []disk.File{{Name: name(s, 1, "dat"), Base: superblock(id, 1, 0)}}}
	return &run{t: t, d: d, s: s, a: appender.New(), alone: s, keys: map[uint64]bool{}, needles: map[uint64]string{}}
}

func (w *run) fatal(what string) {
	w.t.Helper()
	w.t.Fatalf("%s: %s, %s, %s", what, briefDisk(w.d), briefSlot(w.s), brief(w.a))
}

func (w *run) submit(l ...req) {
	w.t.Helper()
	for _, r := range l {
		a, ticket := appender.Submit(w.a, r)
		w.a, w.asked, w.keys[r.Key] = a, append(w.asked, r), true
		if ticket != int64(len(w.asked)) {
			w.fatal(fmt.Sprintf("the ticket %d", ticket))
		}
	}
}

// step does a step, and checks what comes of it.
func (w *run) step() {
	w.t.Helper()
	before := w.d
	down := step(disk.Arm(w.d, 0), w.s, w.a)
	o := checkStep(w.t, w.d, w.s, w.a)
	if o.e != api.OK || !slot.Valid(o.s) || !disk.Valid(o.d) {
		w.fatal(fmt.Sprintf("the result %v", o.e))
	}
	did := before.Left - o.d.Left
	if did != 0 && did != 1 || did == 0 && !same(before, o.d) || len(o.l) > 0 && did > 0 {
		w.fatal(fmt.Sprintf("a step that answers %v does %d operations", o.l, did))
	}
	if did == 1 && down.e != api.ErrDown || did == 0 && (down.e != api.OK || !same(down.s, o.s) || !same(down.a, o.a) || !same(down.l, o.l)) {
		w.fatal("without power: " + briefOutcome(down))
	}
	w.d, w.s, w.a = o.d, o.s, o.a
	w.answers(o.l)
}

// answers checks answers: they are those of planning the requests one after the other,
// and nothing is left to be synced.
func (w *run) answers(l []done) {
	w.t.Helper()
	for _, x := range l {
		r := w.asked[w.answered]
		w.answered++
		e := w.plan(r)
		if x != (done{Ticket: int64(w.answered), Result: e}) {
			w.fatal(fmt.Sprintf("the answer %v, want the ticket %d, %v", x, w.answered, e))
		}
		if e == api.OK {
			w.needles[r.Key] = after(r)
		}
	}
	if len(l) == 0 {
		return
	}
	if !same(w.s, w.alone) {
		w.fatal("the slot is another one than " + briefSlot(w.alone))
	}
	if slices.ContainsFunc(w.d.Files, func(f disk.File) bool { return len(f.Pend) > 0 }) {
		w.fatal("an answer before the end of a sync")
	}
}

// plan lets a request take effect on the slot alone, and returns its result.
func (w *run) plan(r req) errno {
	w.t.Helper()
	for range 2 {
		p, e := batch.Make(w.alone, []req{r})
		if e != api.OK {
			w.fatal(fmt.Sprintf("planning: %v", e))
		}
		if w.alone, e = batch.Apply(w.alone, p); e != api.OK {
			w.fatal(fmt.Sprintf("planning: %v", e))
		}
		if !p.Rotate {
			return p.Results[0]
		}
	}
	w.fatal("a request that needs two new generations")
	return -1
}

// after returns the needle after a request that has the result OK; an empty text is
// none.
func after(r req) string {
	if r.Kind == 1 {
		return text(live(r))
	}
	return ""
}

func text(x api.Needle) string { return fmt.Sprintf("%d/%d: %x", x.Key, x.Cookie, x.Data) }

// crashes checks what a power failure leaves: each key is in the state after the
// requests that were answered and some number of those of the batch.
func (w *run) crashes() {
	w.t.Helper()
	all := w.allowed()
	keeps := []disk.Keep{{}}
	for _, f := range w.d.Files {
		if len(f.Pend) > 1 || len(f.Pend) == 1 && len(keeps) > 1 {
			w.fatal("two writes are not synced")
		}
		if len(f.Pend) == 0 {
			continue
		}
		n := len(f.Pend[0].Data)
		keeps = append(keeps, disk.Keep{Name: f.Name, Writes: 1})
		for torn := 1; torn < n; torn += 1 + min(torn, n-torn-1)/16 {
			keeps = append(keeps, disk.Keep{Name: f.Name, Torn: torn})
		}
	}
	for _, k := range keeps {
		now := w.read(disk.Crash(w.d, []disk.Keep{k}))
		for key := range w.keys {
			if !slices.Contains(all[key], now[key]) {
				w.fatal(fmt.Sprintf("after a power failure that keeps %v, key %d is in the state %q, which is none of %q", k, key, now[key], all[key]))
			}
		}
		if len(now) > len(w.keys) {
			w.fatal(fmt.Sprintf("needles %v", now))
		}
	}
}

// allowed returns the states that each key may have now.
func (w *run) allowed() map[uint64][]string {
	all := map[uint64][]string{}
	for key := range w.keys {
		all[key] = []string{w.needles[key]}
	}
	for i, e := range w.a.Plan.Results {
		r := w.asked[w.answered+i]
		if e == api.OK {
			all[r.Key] = append(all[r.Key], after(r))
		}
	}
	return all
}

// read returns the needles that the files of a disk have: of each generation the
// records in front of the first one that is not whole, without the keys of its journal.
func (w *run) read(d disk.Disk) map[uint64]string {
	w.t.Helper()
	all := map[uint64]string{}
	for num := 1; num <= gens; num++ {
		b := content(d, name(w.s, num, "dat"))
		_, records, _, e := scan.Open(b)
		if e != api.OK {
			// Only the file of a generation that is not there yet may be torn.
			if top, _ := slot.Top(w.s); num <= top.Num {
				w.fatal(fmt.Sprintf("the file of generation %d: %v", num, e))
			}
			continue
		}
		keys, _ := journal.Decode(content(d, name(w.s, num, "del")))
		for _, x := range scan.Items(records) {
			if slices.Contains(keys, x.Key) {
				continue
			}
			n, _, e := needle.Decode(b[x.Off:])
			if e != api.OK {
				w.fatal(fmt.Sprintf("generation %d, key %d: %v", num, x.Key, e))
			}
			all[x.Key] = text(n)
		}
	}
	return all
}

// content returns the content of a file, and nothing if there is no such file.
func content(d disk.Disk, name string) []byte {
	for _, f := range d.Files {
		if f.Name == name {
			return disk.Content(f)
		}
	}
	return nil
}

// files checks that the slot is what its files say; all generations but the last one
// have a journal.
func (w *run) files() {
	w.t.Helper()
	names, want := disk.Names(w.d), []string{}
	for i, g := range w.s.Gens {
		b := content(w.d, name(w.s, g.Num, "dat"))
		want = append(want, name(w.s, g.Num, "dat"))
		if i < len(w.s.Gens)-1 {
			want = append(want, name(w.s, g.Num, "del"))
		}
		head, records, end, e := scan.Open(b)
		if e != api.OK || end != g.Size || int64(len(b)) != end || head != (api.Super{Slot: w.s.ID, Gen: g.Num, Rev: g.Rev}) {
			w.fatal(fmt.Sprintf("the file of generation %d: %v, %v, %d", g.Num, e, head, end))
		}
		del := content(w.d, name(w.s, g.Num, "del"))
		keys, n := journal.Decode(del)
		if n != int64(len(del)) {
			w.fatal(fmt.Sprintf("the journal of generation %d has %d bytes", g.Num, len(del)))
		}
		items := slices.DeleteFunc(slices.Clone(scan.Items(records)), func(x api.Item) bool { return slices.Contains(keys, x.Key) })
		if !slices.Equal(items, nmap.Items(g.Map)) {
			w.fatal(fmt.Sprintf("generation %d has the items %v, its file %v", g.Num, nmap.Items(g.Map), items))
		}
	}
	if !slices.Equal(names, want) {
		w.fatal(fmt.Sprintf("the files %q", names))
	}
}

// end does all steps that there are to do.
func (w *run) end() {
	w.t.Helper()
	for appender.Runnable(w.a) {
		w.step()
		w.crashes()
	}
	w.files()
	if w.answered != len(w.asked) || !same(w.a, state{Next: int64(len(w.asked)) + 1}) {
		w.fatal(fmt.Sprintf("%d answers to %d requests", w.answered, len(w.asked)))
	}
	now := w.read(w.d)
	for key := range w.keys {
		if now[key] != w.needles[key] {
			w.fatal(fmt.Sprintf("key %d is in the state %q, want %q", key, now[key], w.needles[key]))
		}
	}
}

// maintain seals a generation or compacts the last one, as other tasks do: between
// batches alone, if it changes the file.
func (w *run) maintain(r *rand.Rand) {
	w.t.Helper()
	if !same(w.s, w.alone) {
		return
	}
	g := w.s.Gens[r.Intn(len(w.s.Gens))]
	switch {
	case g.Mode == frozen:
		g, _ = generation.Seal(g)
	case g.Mode == writable && w.a.Stage == idle:
		g = w.compact(g)
	default:
		return
	}
	var e errno
	if w.s, e = slot.Change(w.s, g); e != api.OK {
		w.fatal(fmt.Sprintf("maintenance: %v", e))
	}
	w.alone = w.s
}

// compact returns a generation after a compaction of its file.
func (w *run) compact(g gen) gen {
	w.t.Helper()
	dat := name(w.s, g.Num, "dat")
	old, items := content(w.d, dat), slices.Clone(nmap.Items(g.Map))
	b := superblock(w.s.ID, g.Num, g.Rev+1)
	for i, x := range items {
		items[i].Off = int64(len(b))
		b = append(b, old[x.Off:x.Off+int64(needle.Size(x.Size))]...)
	}
	g, e := generation.Swap(g, g.Rev+1, int64(len(b)), nmap.From(items, 0))
	if e != api.OK {
		w.fatal(fmt.Sprintf("a compaction: %v", e))
	}
	w.d = plus(w.d, disk.File{Name: dat, Base: b})
	return g
}

// rotate begins a generation that no request needs, so that all files are short.
func (w *run) rotate() {
	w.t.Helper()
	top, _ := slot.Top(w.s)
	w.d = plus(w.d, disk.File{Name: name(w.s, top.Num, "del")})
	w.d = plus(w.d, disk.File{Name: name(w.s, top.Num+1, "dat"), Base: superblock(w.s.ID, top.Num+1, 0)})
	var e errno
	if w.s, e = slot.Rotate(w.s); e != api.OK {
		w.fatal(fmt.Sprintf("a new generation: %v", e))
	}
	w.alone = w.s
}

// All pairs of requests for a key that each set of three generations has, with another
// key in all of them, submitted at once and after some steps.
func TestShortHistories(t *testing.T) {
	for set := range 8 {
		begin := newRun(t, 1, 5000)
		for i := range 3 {
			if i > 0 {
				begin.rotate()
			}
			begin.submit(put(2, 20, i))
			if set>>i&1 != 0 {
				begin.submit(put(1, uint32(10+i), i))
			}
			begin.end()
		}
		l := []req{put(1, 5, 3), put(1, 12, 0), drop(1, 5), drop(1, 10), drop(1, 11), drop(1, 12), drop(2, 20), put(2, 21, 1), {Kind: 3}}
		for _, first := range l {
			for _, second := range l {
				for _, late := range []int{0, 1, 2, 3, 5, 7} {
					w := *begin
					w.keys, w.needles = copiedMap(begin.keys), copiedMap(begin.needles)
					w.asked = slices.Clip(begin.asked)
					w.submit(first)
					for range late {
						if appender.Runnable(w.a) {
							w.step()
						}
					}
					w.submit(second)
					w.end()
				}
			}
		}
	}
}

func copiedMap[V any](m map[uint64]V) map[uint64]V {
	x := map[uint64]V{}
	for k, v := range m {
		x[k] = v
	}
	return x
}

// Random histories with pauses, compactions and sealings, up to the end of the last
// generation.
func TestRandomHistories(t *testing.T) {
	r := rand.New(rand.NewSource(7))
	full, rotations := 0, 0
	for round := range 12 {
		w := newRun(t, round%4, minLimit+r.Int63n(1500))
		for range 60 {
			for range r.Intn(1 + 2*(round%8)) {
				w.submit(anyRequest(r, w))
			}
			for range r.Intn(12) {
				if r.Intn(9) == 0 {
					w.a = appender.Pause(w.a)
				}
				if appender.Runnable(w.a) {
					w.step()
					w.crashes()
				}
				if r.Intn(9) == 0 {
					w.maintain(r)
				}
				if r.Intn(3) == 0 {
					w.a = appender.Resume(w.a)
				}
			}
			if w.a.Stage == idle {
				w.files()
			}
		}
		w.a = appender.Resume(w.a)
		w.end()
		rotations += len(w.s.Gens) - 1
		w.submit(put(99, 1, maxPayload))
		w.end()
		if top, _ := slot.Top(w.s); top.Num == gens && !slot.Fits(w.s, maxPayload) {
			full++
		}
	}
	if full == 0 || rotations < 20 {
		t.Errorf("%d slots are full, and %d generations were added", full, rotations)
	}
}

// anyRequest returns a request for one of a few keys, often with its cookie.
func anyRequest(r *rand.Rand, w *run) req {
	key := uint64(r.Intn(10))
	if r.Intn(3) == 0 {
		n := []int{0, r.Intn(20), r.Intn(800), r.Intn(4500)}[r.Intn(4)]
		return put(key, uint32(r.Intn(3)), n)
	}
	if at, ok := slot.Find(w.s, key); ok && r.Intn(3) > 0 {
		return drop(key, at.Item.Cookie)
	}
	return req{Kind: 1 + r.Intn(3), Key: key, Cookie: uint32(r.Intn(3))}
}

// A history without power from some operation on: what was answered before is there
// after the failure, and the state is what it was.
func TestPowerFailures(t *testing.T) {
	l := []req{put(1, 1, 4000), drop(1, 2), put(2, 1, 500), drop(1, 1), put(1, 3, 10), put(3, 3, 3000), put(4, 4, 1000), drop(2, 1), drop(3, 3)}
	for n := int64(0); ; n++ {
		w := newRun(t, 2, 5000)
		w.d = disk.Arm(w.d, n)
		w.submit(l...)
		for appender.Runnable(w.a) {
			o := checkStep(t, w.d, w.s, w.a)
			if o.e == api.ErrDown {
				break
			}
			if o.e != api.OK {
				t.Fatalf("power for %d operations: %v", n, o.e)
			}
			w.d, w.s, w.a = o.d, o.s, o.a
			w.answers(o.l)
		}
		if w.d.Left > 0 {
			w.d.Left = plenty
			w.end()
			if n != 11 { // two batches, a generation and a journal
				t.Errorf("all requests have %d operations", n-1)
			}
			return
		}
		w.crashes()
		if n == 0 && w.answered > 0 || n > 100 {
			t.Fatalf("power for %d operations: %d answers", n, w.answered)
		}
	}
}

// A batch that has no room on the disk is tried again and again, and goes on when there
// is room.
func TestDiskWithoutRoom(t *testing.T) {
	w := newRun(t, 0, 5000)
	w.submit(put(1, 1, 100), put(2, 2, 8))
	w.d.Cap = 16 + 128 + 32 - 1
	w.step()
	for range 3 {
		if o := checkStep(t, w.d, w.s, w.a); o.e != api.ErrFull {
			t.Fatalf("a step without room: %s", briefOutcome(o))
		}
	}
	w.d.Cap++
	w.end()
	if len(slot.Items(w.s)) != 2 {
		t.Errorf("at the end: %s", briefSlot(w.s))
	}
}
