package appender_test

import (
	"bytes"
	"encoding/binary"
	"fmt"
	"hash/crc32"
	"reflect"
	"slices"
	"strings"
	"testing"

	"needlestore/api"
	"needlestore/appender"
	"needlestore/batch"
	"needlestore/disk"
	"needlestore/generation"
	"needlestore/nmap"
	"needlestore/slot"
)

// This file has the chapter word for word, with the names and the bytes of the files
// made by hand, and the slots, disks, plans and states on which the program is compared
// with it. The numbers are written out, so that changed constants are noticed.

const (
	idle, killWrite, killSync, write, sync, publish = 0, 1, 2, 3, 4, 5
	create, super, superSync, newJournal, rotate    = 6, 7, 8, 9, 10

	writable, frozen, sealed = 1, 2, 3

	gens       = 8
	superSize  = 16
	maxPayload = 4096
	maxFile    = 1048576
	minLimit   = 4136
	maxFiles   = 256
)

type (
	state = appender.State
	done  = appender.Done
	store = slot.Slot
	gen   = generation.Gen
	req   = batch.Req
	plan  = batch.Plan
	kill  = batch.Kill
	errno = api.Errno
)

// outcome is what a step returns.
type outcome struct {
	d disk.Disk
	s store
	a state
	l []done
	e errno
}

// step is the step of the program.
func step(d disk.Disk, s store, a state) outcome {
	var o outcome
	o.d, o.s, o.a, o.l, o.e = appender.Step(d, s, a)
	return o
}

// runnable is the condition of 16.1.
func runnable(a state) bool {
	switch a.Stage {
	case killWrite, killSync, write, sync, publish, create, super, superSync, newJournal, rotate:
		return true
	case idle:
		return !a.Paused && len(a.Queue) > 0
	}
	return false
}

// fits is 16.4 word for word.
func fits(s store, a state) bool {
	switch a.Stage {
	case killWrite, killSync:
		return a.At >= 0 && a.At <= len(a.Plan.Kills)-1
	case publish:
		_, e := batch.Apply(s, a.Plan)
		return len(a.Plan.Results) == len(a.Batch) && e == api.OK
	case write:
		return !slices.ContainsFunc(a.Plan.Needles, func(x api.Needle) bool {
			return len(x.Data) > maxPayload || x.Deleted && len(x.Data) > 0
		})
	case create, super, superSync, newJournal:
		return s.Gens[len(s.Gens)-1].Num < gens
	case rotate:
		_, e := batch.Apply(s, a.Plan)
		return e == api.OK
	}
	return true
}

// wanted is 16.2 and 16.3 word for word.
func wanted(d disk.Disk, s store, a state) outcome {
	switch {
	case !slot.Valid(s):
		return outcome{e: api.ErrArg}
	case !runnable(a), !fits(s, a):
		return outcome{e: api.ErrState}
	}
	next, e := operation(d, s, a)
	if e != api.OK {
		return outcome{e: e}
	}
	o := outcome{d: next, s: s, a: following(s, a)}
	switch a.Stage {
	case publish:
		for i := range a.Batch {
			o.l = append(o.l, done{Ticket: a.Batch[i].Ticket, Result: a.Plan.Results[i]})
		}
		o.s, _ = batch.Apply(s, a.Plan)
	case rotate:
		o.s, _ = batch.Apply(s, a.Plan)
	}
	return o
}

// operation is the middle column of the table in 16.3.
func operation(d disk.Disk, s store, a state) (disk.Disk, errno) {
	t := s.Gens[len(s.Gens)-1].Num
	switch a.Stage {
	case killWrite:
		k := a.Plan.Kills[a.At]
		return disk.Append(d, name(s, k.Gen, "del"), entries(k.Keys...))
	case killSync:
		return disk.Sync(d, name(s, a.Plan.Kills[a.At].Gen, "del"))
	case write:
		var b []byte
		for _, x := range a.Plan.Needles {
			b = append(b, record(x)...)
		}
		return disk.Append(d, name(s, t, "dat"), b)
	case sync:
		return disk.Sync(d, name(s, t, "dat"))
	case create:
		return disk.Create(d, name(s, t+1, "dat"))
	case super:
		return disk.Append(d, name(s, t+1, "dat"), superblock(s.ID, t+1, 0))
	case superSync:
		return disk.Sync(d, name(s, t+1, "dat"))
	case newJournal:
		return disk.Create(d, name(s, t, "del"))
	}
	return d, api.OK
}

// following is the last column of the table in 16.3, as far as it says what the next
// state is.
func following(s store, a state) state {
	switch a.Stage {
	case idle:
		p, _ := batch.Make(s, a.Queue)
		a.Batch, a.Queue, a.Plan, a.At = a.Queue[:p.Take], a.Queue[p.Take:], p, 0
		a.Stage = stageOf(p)
		if p.Rotate {
			a.Stage = create
		} else if len(p.Kills) > 0 {
			a.Stage = killWrite
		}
	case killSync:
		if a.At+1 < len(a.Plan.Kills) {
			a.Stage, a.At = killWrite, a.At+1
		} else {
			a.Stage = stageOf(a.Plan)
		}
	case publish, rotate:
		a.Batch, a.Plan, a.At, a.Stage = nil, plan{}, 0, idle
	default:
		a.Stage = map[int]int{
			killWrite: killSync, write: sync, sync: publish,
			create: super, super: superSync, superSync: newJournal, newJournal: rotate,
		}[a.Stage]
	}
	return a
}

// stageOf is "Write, if there are Needles, or Publish".
func stageOf(p plan) int {
	if len(p.Needles) > 0 {
		return write
	}
	return publish
}

// name is the name of a file; there is none of a generation whose number is not from
// 1 to 8, and none of another slot than 0 to 3.
func name(s store, num int, ending string) string {
	if num < 1 || num > gens || s.ID < 0 || s.ID > 3 {
		return ""
	}
	return fmt.Sprintf("v.%d.%d.%s", s.ID, num, ending)
}

var castagnoli = crc32.MakeTable(crc32.Castagnoli)

// entries are the entries of keys in a journal.
func entries(keys ...uint64) []byte {
	var all []byte
	for _, key := range keys {
		b := binary.BigEndian.AppendUint64(nil, key)
		all = append(all, binary.LittleEndian.AppendUint32(b, crc32.Checksum(b, castagnoli))...)
	}
	return all
}

// superblock is the superblock with this Rev.
func superblock(id, num int, rev int64) []byte {
	b := []byte{'N', 'V', 'O', 'L', 0, byte(id), 0, byte(num)}
	b = binary.BigEndian.AppendUint32(b, uint32(rev))
	return binary.LittleEndian.AppendUint32(b, crc32.Checksum(b, castagnoli))
}

// record is the record of a needle.
func record(x api.Needle) []byte {
	kind := byte(0)
	if x.Deleted {
		kind = 1
	}
	b := []byte{78, 165, kind, 0}
	b = binary.BigEndian.AppendUint32(b, x.Cookie)
	b = binary.BigEndian.AppendUint64(b, x.Key)
	b = binary.BigEndian.AppendUint32(b, uint32(len(x.Data)))
	b = append(b, x.Data...)
	b = binary.LittleEndian.AppendUint32(b, crc32.Checksum(b, castagnoli))
	for len(b)%8 != 0 {
		b = append(b, 0)
	}
	return b
}

// of returns a generation with these items, in a file in which garbage is the rest.
func of(num, mode int, size int64, l ...api.Item) gen {
	m := nmap.From(l, 0)
	if len(l) > 0 && nmap.Len(m) == 0 {
		panic("an item is not valid")
	}
	m.Garbage = size - superSize - m.Live
	return gen{Num: num, Rev: int64(100*num + mode), Mode: mode, Size: size, Map: m}
}

// with returns a generation with these keys, the cookies of which are 10 times the
// key and the number of the generation, without data.
func with(num, mode int, keys ...uint64) gen {
	var l []api.Item
	for i, key := range keys {
		l = append(l, api.Item{Key: key, Cookie: uint32(10*key) + uint32(num), Off: superSize + 24*int64(i)})
	}
	return of(num, mode, superSize+24*int64(len(keys)), l...)
}

// three returns a slot with the generations 2 (keys 1, 2, 3, 4), 5 (keys 2, 3, 5) and
// 6 (keys 3, 4, 6).
func three() store {
	return store{ID: 3, Limit: 5000, Gens: []gen{with(2, sealed, 1, 2, 3, 4), with(5, frozen, 2, 3, 5), with(6, writable, 3, 4, 6)}}
}

// most returns a slot whose last generation has the greatest number.
func most() store {
	return store{ID: 1, Limit: 5000, ReadOnly: true, Gens: []gen{with(1, frozen, 1, 3), with(7, frozen, 3, 5), with(8, writable, 3, 6)}}
}

// fresh returns a new slot.
func fresh(id int, limit int64) store {
	return store{ID: id, Limit: limit, Gens: []gen{{Num: 1, Mode: writable, Size: superSize}}}
}

// badSlots returns slots that are not valid, each because of one thing.
func badSlots(t *testing.T) []store {
	t.Helper()
	l := []store{{}, fresh(-1, 5000), fresh(4, 5000), fresh(0, minLimit-1), fresh(0, 262145), {Limit: 5000}}
	for _, f := range []func(s *store){
		func(s *store) { s.Gens = s.Gens[:2] },
		func(s *store) { s.Gens[2].Mode = frozen },
		func(s *store) { s.Gens[0].Mode = writable },
		func(s *store) { s.Gens[2].Num = 9 },
		func(s *store) { s.Gens[0].Num = 0 },
		func(s *store) { s.Gens[1].Num = 6 },
		func(s *store) { s.Gens[1].Size += 8 },
		func(s *store) { s.Gens[2].Map.Live++ },
		func(s *store) { s.Gens[2] = of(6, writable, 10008) },
	} {
		s := three()
		f(&s)
		l = append(l, s)
	}
	for i, s := range l {
		if slot.Valid(s) {
			t.Fatalf("number %d of the slots that are not valid is valid", i)
		}
	}
	return l
}

// put, of n bytes, and drop are requests.

func put(key uint64, cookie uint32, n int) req {
	data := make([]byte, n)
	for i := range data {
		data[i] = byte(int(key) + int(cookie)*7 + i)
	}
	return req{Ticket: -7, Kind: 1, Key: key, Cookie: cookie, Data: data}
}

func drop(key uint64, cookie uint32) req {
	return req{Ticket: 1000, Kind: 2, Key: key, Cookie: cookie}
}

func live(r req) api.Needle { return api.Needle{Key: r.Key, Cookie: r.Cookie, Data: r.Data} }

func gone(key uint64, cookie uint32) api.Needle {
	return api.Needle{Key: key, Cookie: cookie, Deleted: true}
}

func lost(gen int, keys ...uint64) kill { return kill{Gen: gen, Keys: keys} }

// queued returns a state with these requests.
func queued(l ...req) state {
	a := appender.New()
	for _, r := range l {
		a, _ = appender.Submit(a, r)
	}
	return a
}

// filesOf returns a disk with the dat files and the journals of a slot: the contents
// of the dat files are as long as the slot says, but they are not its records.
func filesOf(s store) disk.Disk {
	d := disk.Disk{Left: -1}
	last := len(s.Gens) - 1
	for i, g := range s.Gens {
		d.Files = append(d.Files, disk.File{Name: name(s, g.Num, "dat"), Base: make([]byte, g.Size)})
		if i < last {
			d.Files = append(d.Files, disk.File{Name: name(s, g.Num, "del"), Base: entries(99)})
		}
	}
	return d
}

// without returns d without a file, in memory of its own.
func without(d disk.Disk, name string) disk.Disk {
	d = copied(d)
	d.Files = slices.DeleteFunc(d.Files, func(f disk.File) bool { return f.Name == name })
	return d
}

// plus returns d with a file, instead of that with its name if there is one, in memory
// of its own.
func plus(d disk.Disk, f disk.File) disk.Disk {
	d = without(d, f.Name)
	d.Files = append(d.Files, f)
	slices.SortFunc(d.Files, func(x, y disk.File) int { return strings.Compare(x.Name, y.Name) })
	return d
}

// copied returns a value in memory of its own: nil lists stay nil.
func copied[T any](x T) T {
	var y T
	copyTo(reflect.ValueOf(&y).Elem(), reflect.ValueOf(x))
	return y
}

func copyTo(to, from reflect.Value) {
	switch from.Kind() {
	case reflect.Slice:
		if from.IsNil() {
			return
		}
		to.Set(reflect.MakeSlice(from.Type(), from.Len(), from.Len()))
		copyElements(to, from)
	case reflect.Array:
		copyElements(to, from)
	case reflect.Struct:
		for i := range from.NumField() {
			copyTo(to.Field(i), from.Field(i))
		}
	default:
		to.Set(from)
	}
}

func copyElements(to, from reflect.Value) {
	if from.Type().Elem().Kind() == reflect.Uint8 {
		reflect.Copy(to, from)
		return
	}
	for i := range from.Len() {
		copyTo(to.Index(i), from.Index(i))
	}
}

// same reports whether two values are equal, where nil and empty lists are equivalent.
func same[T any](a, b T) bool { return sameParts(reflect.ValueOf(a), reflect.ValueOf(b)) }

func sameParts(a, b reflect.Value) bool {
	switch a.Kind() {
	case reflect.Slice:
		if a.Type().Elem().Kind() == reflect.Uint8 {
			return bytes.Equal(a.Bytes(), b.Bytes())
		}
		if a.Len() != b.Len() {
			return false
		}
		return sameElements(a, b)
	case reflect.Array:
		return sameElements(a, b)
	case reflect.Struct:
		for i := range a.NumField() {
			if !sameParts(a.Field(i), b.Field(i)) {
				return false
			}
		}
		return true
	}
	return a.Equal(b)
}

func sameElements(a, b reflect.Value) bool {
	for i := range a.Len() {
		if !sameParts(a.Index(i), b.Index(i)) {
			return false
		}
	}
	return true
}

// brief, briefSlot, briefDisk and briefOutcome return what their argument is, for
// messages.

func brief(a state) string {
	text := fmt.Sprintf("{stage %d, at %d, paused %v, next %d, queue", a.Stage, a.At, a.Paused, a.Next)
	for _, r := range a.Queue[:min(len(a.Queue), 9)] {
		text += fmt.Sprintf(" %d:%d/%d", r.Ticket, r.Kind, r.Key)
	}
	text += fmt.Sprintf(" (%d), batch", len(a.Queue))
	for _, r := range a.Batch {
		text += fmt.Sprintf(" %d:%d/%d", r.Ticket, r.Kind, r.Key)
	}
	p := a.Plan
	text += fmt.Sprintf(", rotate %v, take %d, kills %v, results %v, needles", p.Rotate, p.Take, p.Kills, p.Results)
	for _, x := range p.Needles[:min(len(p.Needles), 9)] {
		text += fmt.Sprintf(" %d/%v/%d bytes", x.Key, x.Deleted, len(x.Data))
	}
	return text + "}"
}

func briefSlot(s store) string {
	text := fmt.Sprintf("{slot %d, limit %d:", s.ID, s.Limit)
	for _, g := range s.Gens[:min(len(s.Gens), 9)] {
		text += fmt.Sprintf(" {%d, mode %d, size %d, %d items}", g.Num, g.Mode, g.Size, nmap.Len(g.Map))
	}
	return text + "}"
}

func briefDisk(d disk.Disk) string {
	text := fmt.Sprintf("{cap %d, left %d:", d.Cap, d.Left)
	for _, f := range d.Files[:min(len(d.Files), 9)] {
		text += fmt.Sprintf(" %s %d", f.Name, len(f.Base))
		for _, w := range f.Pend {
			text += fmt.Sprintf("+%d@%d", len(w.Data), w.Off)
		}
	}
	return text + fmt.Sprintf(" (%d files)}", len(d.Files))
}

func briefOutcome(o outcome) string {
	return fmt.Sprintf("%s, %s, %s, %v, %v", briefDisk(o.d), briefSlot(o.s), brief(o.a), o.l, o.e)
}

// checkStep compares a step with the chapter, and returns what the program returns.
func checkStep(t *testing.T, d disk.Disk, s store, a state) outcome {
	t.Helper()
	beforeD, beforeS, beforeA := copied(d), copied(s), copied(a)
	got := step(d, s, a)
	if !same(d, beforeD) || !same(s, beforeS) || !same(a, beforeA) {
		t.Fatalf("Step changed its arguments %s, %s, %s", briefDisk(beforeD), briefSlot(beforeS), brief(beforeA))
	}
	if want := wanted(beforeD, beforeS, beforeA); !same(got, want) {
		t.Fatalf("Step of %s, %s, %s:\n%s, want\n%s", briefDisk(d), briefSlot(s), brief(a), briefOutcome(got), briefOutcome(want))
	}
	return got
}
