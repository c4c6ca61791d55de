package appender_test

import (
	"fmt"
	"math"
	"slices"
	"testing"

	"needlestore/api"
	"needlestore/appender"
	"needlestore/batch"
	"needlestore/disk"
	"needlestore/slot"
)

// The chapter's examples.

func TestExamples(t *testing.T) {
	if appender.Runnable(appender.New()) {
		t.Error("New() is runnable")
	}
	s, _ := slot.New(0, 5000)
	a, _ := appender.Submit(appender.New(), put(1, 2, 3))
	if o := step(filesOf(s), s, a); o.e != api.OK || o.a.Stage != appender.Write {
		t.Errorf("the first step: %s", briefOutcome(o))
	}
	if o := step(filesOf(s), s, appender.New()); o.e != api.ErrState {
		t.Errorf("Step of New(): %v", o.e)
	}
}

func TestNumbersOfStages(t *testing.T) {
	l := []int{appender.Idle, appender.KillWrite, appender.KillSync, appender.Write, appender.Sync, appender.Publish, appender.Create, appender.Super, appender.SuperSync, appender.Journal, appender.Rotate}
	for i, stage := range l {
		if stage != i {
			t.Errorf("stage %d is %d", i, stage)
		}
	}
}

// Promise 16.1.

func TestNew(t *testing.T) {
	if a := appender.New(); !same(a, state{Next: 1}) {
		t.Errorf("New: %s", brief(a))
	}
}

// somePlan is a plan with something in each field.
func somePlan() plan {
	return plan{Rotate: true, Take: 3, Kills: []kill{lost(5, 2, 3)}, Needles: []api.Needle{live(put(8, 8, 8))}, Results: []errno{api.OK, api.ErrFull}}
}

// someStates returns states with something in each field, of different stages.
func someStates() []state {
	var l []state
	for i, stage := range []int{-1, idle, killWrite, killSync, write, sync, publish, create, super, superSync, newJournal, rotate, 11, math.MaxInt, math.MinInt} {
		for _, paused := range []bool{false, true} {
			for n := range 3 {
				a := state{Stage: stage, At: i - 3, Paused: paused, Next: int64(100*i + n), Plan: somePlan()}
				a.Batch = []req{put(4, 4, 4), drop(5, 5)}[:i%3%2+n%2]
				a.Queue = slices.Repeat([]req{drop(3, 3), put(6, 6, 6)}, n)
				l = append(l, a, state{Stage: stage, Paused: paused, Queue: a.Queue})
			}
		}
	}
	return l
}

func TestSubmit(t *testing.T) {
	requests := []req{{}, put(1, 2, 3), drop(4, 5), {Ticket: 77, Kind: 9, Key: math.MaxUint64, Cookie: math.MaxUint32, Data: make([]byte, maxPayload+1)}}
	for _, a := range someStates() {
		for _, next := range []int64{a.Next, 0, 1, -1, -100, math.MinInt64, math.MaxInt64 - 1} {
			for _, r := range requests {
				a.Next = next
				before, beforeR := copied(a), copied(r)
				got, ticket := appender.Submit(a, r)
				want := copied(a)
				want.Next++
				want.Queue = append(want.Queue, req{Ticket: a.Next, Kind: r.Kind, Key: r.Key, Cookie: r.Cookie, Data: r.Data})
				if ticket != next || !same(got, want) {
					t.Fatalf("Submit to %s: %s, %d, want %s, %d", brief(a), brief(got), ticket, brief(want), next)
				}
				if !same(a, before) || !same(r, beforeR) {
					t.Fatalf("Submit changed its arguments %s", brief(before))
				}
			}
		}
	}
}

func TestTicketsAscend(t *testing.T) {
	a := appender.New()
	for i := range int64(300) {
		next, ticket := appender.Submit(a, put(uint64(i), 1, 1))
		if ticket != i+1 || next.Next != i+2 || int64(len(next.Queue)) != i+1 {
			t.Fatalf("request %d has the ticket %d in %s", i, ticket, brief(next))
		}
		a = next
	}
	for i, r := range a.Queue {
		if r.Ticket != int64(i)+1 || r.Key != uint64(i) {
			t.Errorf("request %d of the queue has the ticket %d and the key %d", i, r.Ticket, r.Key)
		}
	}
}

// Two states that come from one have their own queues, whatever room is behind the end.
func TestStatesHaveTheirOwnQueues(t *testing.T) {
	roomy := state{Next: 5, Queue: append(make([]req, 0, 10), put(1, 1, 1))}
	for _, a := range []state{roomy, queued(), queued(put(1, 1, 1)), queued(put(1, 1, 1), drop(2, 2), drop(3, 3))} {
		first, _ := appender.Submit(a, put(8, 8, 8))
		second, _ := appender.Submit(a, drop(9, 9))
		again, _ := appender.Submit(first, drop(7, 7))
		n := len(a.Queue)
		if first.Queue[n].Key != 8 || second.Queue[n].Key != 9 || again.Queue[n].Key != 8 || again.Queue[n+1].Key != 7 {
			t.Errorf("the queues are %v, %v, %v", first.Queue, second.Queue, again.Queue)
		}
		if whole := a.Queue[:cap(a.Queue)]; len(whole) > n && whole[n].Key != 0 {
			t.Errorf("Submit wrote behind the end of the queue: %v", whole)
		}
	}
}

func TestPauseAndResume(t *testing.T) {
	for _, a := range someStates() {
		before := copied(a)
		paused, resumed := copied(a), copied(a)
		paused.Paused, resumed.Paused = true, false
		if x := appender.Pause(a); !same(x, paused) {
			t.Errorf("Pause of %s: %s", brief(a), brief(x))
		}
		if x := appender.Resume(a); !same(x, resumed) {
			t.Errorf("Resume of %s: %s", brief(a), brief(x))
		}
		if !same(a, before) {
			t.Errorf("Pause or Resume changed its argument %s", brief(before))
		}
	}
}

func TestRunnable(t *testing.T) {
	for _, a := range someStates() {
		for stage := -3; stage < 15; stage++ {
			a.Stage = stage
			before := copied(a)
			if got := appender.Runnable(a); got != runnable(a) {
				t.Errorf("Runnable of %s: %v", brief(a), got)
			}
			if !same(a, before) {
				t.Errorf("Runnable changed its argument %s", brief(before))
			}
		}
	}
	for _, stage := range []int{math.MinInt, math.MaxInt, 1 << 32, 1<<32 + 1, 256} {
		if a := (state{Stage: stage, Queue: []req{{}}}); appender.Runnable(a) {
			t.Errorf("%s is runnable", brief(a))
		}
	}
}

// Promises 16.2 to 16.4: each stage with plans, slots and disks of all kinds.

// plans returns plans that fit and plans that do not, for three() and most().
func plans() []plan {
	large, odd := api.Needle{Key: 1, Data: make([]byte, maxPayload+1)}, api.Needle{Key: 1, Deleted: true, Data: []byte{1}}
	block := live(put(1, 1, maxPayload))
	five := lost(5, 5, 2, 77)
	l := []plan{
		{},
		{Kills: []kill{lost(2, 1)}},
		{Kills: []kill{lost(2, 4, 1), five}},
		{Kills: []kill{lost(1, 1), lost(7)}, Needles: []api.Needle{live(put(9, 9, 9))}},
		{Kills: []kill{five, five, lost(2)}, Needles: []api.Needle{gone(3, 36), live(put(3, 1, 100))}},
		{Kills: []kill{lost(4, 1)}},                     // no such generation
		{Kills: []kill{lost(6, 3)}},                     // Writable in three()
		{Kills: []kill{lost(8, 3)}},                     // Writable in most()
		{Kills: []kill{lost(0), lost(9)}},               // no names
		{Kills: []kill{lost(-1, 1), lost(math.MaxInt)}}, // no names
		{Needles: []api.Needle{gone(6, 66)}},
		{Needles: []api.Needle{block}},
		{Needles: []api.Needle{block, block, block}}, // more than the slot takes
		{Needles: []api.Needle{large}},
		{Needles: []api.Needle{block, odd}},
		{Kills: []kill{five}, Needles: []api.Needle{odd, large}},
		somePlan(),
		{Rotate: true},
		{Rotate: true, Needles: []api.Needle{large}, Kills: []kill{lost(4)}},
	}
	for i := range l {
		l[i].Results = []errno{api.OK, api.ErrNone, 99, -5}[:i%4]
		l[i].Take = i%4 - 1
	}
	return l
}

// states returns states of a stage with plans of all kinds.
func states(stage int) []state {
	full := []req{put(1, 1, 1), drop(2, 2), {}, put(4, 4, 4)}
	for i := range full {
		full[i].Ticket = int64(7 - 3*i)
	}
	var l []state
	for i, p := range plans() {
		for _, n := range []int{0, 1, 2, 3, 4} {
			a := state{Stage: stage, Plan: p, Batch: full[:n], Queue: full[n:], Next: int64(i), Paused: i%2 == 0}
			for _, at := range []int{-1, 0, 1, 2, 3} {
				a.At = at
				l = append(l, a)
			}
		}
	}
	a := state{Stage: stage, Plan: somePlan(), Batch: full[:2]}
	for _, at := range []int{math.MinInt, math.MaxInt, 1 << 32, 256} {
		a.At = at
		l = append(l, a)
	}
	return l
}

// disks returns disks with the files of a slot, and disks on which operations of the
// appender fail.
func disks(s store) []disk.Disk {
	d := filesOf(s)
	last := s.Gens[len(s.Gens)-1].Num
	pending := copied(d)
	for i := range pending.Files {
		pending.Files[i].Pend = []disk.Write{{Off: 5, Data: []byte{1, 2, 3}}, {Off: 2, Cut: true}}
	}
	l := []disk.Disk{d, pending, {}, {Cap: -1}, {Left: -2}, disk.New(0)}
	l = append(l, disk.Arm(d, 0), disk.Arm(d, 1), disk.Arm(pending, 7))
	for _, g := range s.Gens {
		l = append(l, without(d, name(s, g.Num, "dat")), without(d, name(s, g.Num, "del")))
		for _, ending := range []string{"dat", "del"} {
			for _, n := range []int{maxFile, maxFile - 12, maxFile - 15, maxFile - 16, maxFile - 33} {
				l = append(l, plus(d, disk.File{Name: name(s, g.Num, ending), Base: make([]byte, n)}))
			}
		}
	}
	fresh := plus(d, disk.File{Name: name(s, last, "del"), Pend: []disk.Write{{}}})
	if last < gens {
		fresh = plus(fresh, disk.File{Name: name(s, last+1, "dat"), Base: []byte("abc")})
	}
	l = append(l, fresh, disk.Arm(fresh, 0), disk.Arm(fresh, 3))
	var used int64
	for _, f := range fresh.Files {
		used += int64(len(f.Base))
	}
	for _, more := range []int64{0, 11, 12, 15, 16, 24, 39, 40} {
		fresh.Cap = used + more
		l = append(l, fresh)
	}
	for _, n := range []int{maxFiles - 1, maxFiles} {
		many := copied(d)
		for i := 0; len(many.Files) < n; i++ {
			many.Files = append(many.Files, disk.File{Name: fmt.Sprintf("w.%03d", i)})
		}
		l = append(l, many)
	}
	return l
}

func TestEachStep(t *testing.T) {
	for _, s := range []store{three(), most(), fresh(2, 5000)} {
		l := disks(s)
		if !disk.Valid(l[0]) || !disk.Valid(l[len(l)-1]) {
			t.Fatal("a disk is not valid")
		}
		for stage := -1; stage <= 11; stage++ {
			answered, moved, errors := 0, 0, map[errno]int{}
			all := states(stage)
			for i, d := range l {
				for j, a := range all {
					if skipped(d, i, j) {
						continue
					}
					o := checkStep(t, d, s, a)
					errors[o.e]++
					if len(o.l) > 0 {
						answered++
					}
					if o.e == api.OK && !same(o.d, d) {
						moved++
					}
					if len(o.l) > 0 && !same(o.d, d) {
						t.Fatalf("a step that answers changes the disk: %s", briefOutcome(o))
					}
				}
			}
			checkKinds(t, s, stage, answered, moved, errors)
		}
	}
}

// skipped reports whether one of the disks is not tried with one of the states: the
// first one is tried with all of them, and those with long files are slow.
func skipped(d disk.Disk, i, j int) bool {
	long := slices.ContainsFunc(d.Files, func(f disk.File) bool { return len(f.Base) > maxFile/2 })
	return i > 0 && (i+j)%7 > 0 || long && (i+j)%5 > 0
}

// checkKinds reports what the steps of a stage should have seen and did not: errors
// of the disk and others, steps, and answers.
func checkKinds(t *testing.T, s store, stage, answered, moved int, errors map[errno]int) {
	t.Helper()
	want := []errno{api.ErrState}
	last := s.Gens[len(s.Gens)-1].Num
	switch stage {
	case idle, publish:
		want = append(want, api.OK)
	case killWrite, write:
		want = append(want, api.OK, api.ErrArg, api.ErrDown, api.ErrNone, api.ErrFull)
	case killSync:
		want = append(want, api.OK, api.ErrArg, api.ErrDown, api.ErrNone)
	case sync:
		want = []errno{api.OK, api.ErrArg, api.ErrDown, api.ErrNone}
	case create, newJournal:
		if last < gens {
			want = []errno{api.OK, api.ErrArg, api.ErrDown, api.ErrExists, api.ErrFull}
		}
	case super, superSync:
		if last < gens {
			want = []errno{api.OK, api.ErrArg, api.ErrDown, api.ErrNone}
		}
	case rotate:
		want = append(want, api.OK)
	}
	if s.ID == 2 && (stage == killWrite || stage == killSync) {
		want = []errno{api.ErrState, api.ErrArg, api.ErrDown, api.ErrNone}
	}
	for _, e := range want {
		if errors[e] == 0 {
			t.Errorf("slot %d, stage %d: no step has the result %v: %v", s.ID, stage, e, errors)
		}
	}
	if (answered > 0) != (stage == publish) {
		t.Errorf("slot %d, stage %d: %d steps answer", s.ID, stage, answered)
	}
	if (stage == idle || stage == publish || stage == rotate) && moved > 0 {
		t.Errorf("slot %d, stage %d: %d steps change the disk", s.ID, stage, moved)
	}
}

// A slot that is not valid is the first error, whatever else is wrong.
func TestInvalidSlots(t *testing.T) {
	for _, s := range badSlots(t) {
		for _, d := range []disk.Disk{filesOf(three()), {Left: -5}, disk.Arm(disk.New(0), 0)} {
			for stage := -1; stage <= 11; stage++ {
				for _, a := range []state{{Stage: stage}, {Stage: stage, Queue: []req{put(1, 2, 3)}}, {Stage: stage, Plan: plans()[2], Batch: make([]req, 2)}} {
					if o := checkStep(t, d, s, a); o.e != api.ErrArg {
						t.Errorf("Step of %s, %s: %v", briefSlot(s), brief(a), o.e)
					}
				}
			}
		}
	}
}

// Idle, Publish and Rotate need no disk, and leave even one that is not valid as it is.
func TestStepsWithoutDisk(t *testing.T) {
	s := three()
	for _, d := range []disk.Disk{{}, {Cap: -7, Left: -5}, disk.Arm(filesOf(s), 0), disk.Arm(disk.New(8), 9), {Files: []disk.File{{Name: "A"}, {Name: "A"}}}} {
		for _, a := range []state{queued(put(1, 2, 3)), {Stage: publish, Batch: []req{{Ticket: 4}}, Plan: plan{Results: []errno{api.ErrFull}}}, {Stage: rotate, Plan: plan{Rotate: true}}} {
			o := checkStep(t, d, s, a)
			if o.e != api.OK || !same(o.d, d) {
				t.Errorf("Step of %s: %s", brief(a), briefOutcome(o))
			}
		}
	}
}

// A plan that does not fit is an error before those of the disk; a stage that is none
// is one before the plan.
func TestOrderOfErrors(t *testing.T) {
	large := []api.Needle{{Data: make([]byte, maxPayload+1)}}
	for _, d := range []disk.Disk{{Left: -5}, disk.Arm(filesOf(most()), 0), disk.New(0)} {
		for _, a := range []state{
			{Stage: killWrite},
			{Stage: killSync},
			{Stage: killSync, At: 1, Plan: plan{Kills: []kill{lost(1, 1)}}},
			{Stage: write, Plan: plan{Needles: large}},
			{Stage: publish, Batch: make([]req, 1)},
			{Stage: create}, {Stage: super}, {Stage: superSync}, {Stage: newJournal},
			{Stage: rotate, Plan: plan{Rotate: true}},
			{Stage: 11, Plan: plan{Needles: large}}, {Stage: -1}, {},
		} {
			if o := checkStep(t, d, most(), a); o.e != api.ErrState {
				t.Errorf("Step of %s: %v", brief(a), o.e)
			}
		}
	}
}

// checkStages does steps until there is nothing to do, with the slots, disks and
// states of a store, and compares the stages before the steps, the texts of the files
// that they change, and the answers.
func checkStages(t *testing.T, d disk.Disk, s store, a state, stages []int, changes []string, answers []done) outcome {
	t.Helper()
	o := outcome{d: d, s: s, a: a}
	var seen []int
	var names []string
	var l []done
	for appender.Runnable(o.a) {
		seen = append(seen, o.a.Stage)
		next := checkStep(t, o.d, o.s, o.a)
		if next.e != api.OK {
			t.Fatalf("stages %v: %s, %v", seen, brief(o.a), next.e)
		}
		names = append(names, change(o.d, next.d))
		l = append(l, next.l...)
		o = next
	}
	if !slices.Equal(seen, stages) || !slices.Equal(names, changes) || !slices.Equal(l, answers) {
		t.Errorf("stages %v, changes %q, answers %v", seen, names, l)
	}
	return o
}

// change returns what the second disk has otherwise than the first one.
func change(before, after disk.Disk) string {
	var text string
	for _, f := range after.Files {
		i := slices.IndexFunc(before.Files, func(x disk.File) bool { return x.Name == f.Name })
		switch {
		case i < 0:
			text += " create " + f.Name
		case len(f.Pend) > len(before.Files[i].Pend):
			text += fmt.Sprintf(" append %s %d", f.Name, len(f.Pend[len(f.Pend)-1].Data))
		case len(f.Pend) < len(before.Files[i].Pend):
			text += fmt.Sprintf(" sync %s %d", f.Name, len(f.Base)-len(before.Files[i].Base))
		}
	}
	return text
}

// Promise 16.3: by hand.

func TestDeletesFromEarlierGenerations(t *testing.T) {
	s := three()
	a := queued(drop(4, 46), drop(2, 25), drop(1, 12), drop(1, 12), put(1, 7, 9))
	o := checkStages(t, filesOf(s), s, a, []int{idle, killWrite, killSync, killWrite, killSync, write, sync, publish}, []string{
		"", " append v.3.2.del 36", " sync v.3.2.del 36", " append v.3.5.del 12", " sync v.3.5.del 12", " append v.3.6.dat 64", " sync v.3.6.dat 64", "",
	}, []done{{1, api.OK}, {2, api.OK}, {3, api.OK}, {4, api.ErrNone}, {5, api.OK}})
	if !same(o.a, state{Next: 6}) {
		t.Errorf("the state at the end: %s", brief(o.a))
	}
	want := filesOf(s)
	dat := slices.Concat(make([]byte, 88), record(gone(4, 46)), record(live(put(1, 7, 9))))
	for name, b := range map[string][]byte{"v.3.2.del": entries(99, 4, 2, 1), "v.3.5.del": entries(99, 2), "v.3.6.dat": dat} {
		want = plus(want, disk.File{Name: name, Base: b})
	}
	if !same(o.d, want) {
		t.Errorf("the disk at the end: %s, want %s", briefDisk(o.d), briefDisk(want))
	}
	for key, num := range map[uint64]int{1: 6, 2: 0, 3: 6, 4: 0, 5: 5, 6: 6} {
		if at, ok := slot.Find(o.s, key); at.Gen != num || ok != (num > 0) {
			t.Errorf("key %d is in generation %d", key, at.Gen)
		}
	}
	checkStages(t, filesOf(s), s, queued(drop(5, 55)), []int{idle, killWrite, killSync, publish}, []string{"", " append v.3.5.del 12", " sync v.3.5.del 12", ""}, []done{{1, api.OK}})
	checkStages(t, filesOf(s), s, queued(drop(1, 12), drop(5, 55)), []int{idle, killWrite, killSync, killWrite, killSync, publish}, []string{"", " append v.3.2.del 12", " sync v.3.2.del 12", " append v.3.5.del 12", " sync v.3.5.del 12", ""}, []done{{1, api.OK}, {2, api.OK}})
	checkStages(t, filesOf(s), s, queued(drop(6, 66)), []int{idle, write, sync, publish}, []string{"", " append v.3.6.dat 24", " sync v.3.6.dat 24", ""}, []done{{1, api.OK}})
	checkStages(t, filesOf(s), s, queued(drop(6, 65), req{Kind: 3}, put(6, 6, maxPayload+1)), []int{idle, publish}, []string{"", ""}, []done{{1, api.ErrNone}, {2, api.ErrArg}, {3, api.ErrTooLarge}})
}

func TestNewGeneration(t *testing.T) {
	for num := 1; num <= gens; num++ {
		s := store{ID: num % 4, Limit: 5000, Gens: []gen{of(num, writable, 4992)}}
		a := appender.Pause(queued(put(1, 2, 3), drop(1, 2)))
		if appender.Runnable(a) {
			t.Fatal("a state that is paused is runnable")
		}
		a = appender.Resume(a)
		if num == gens {
			o := checkStages(t, filesOf(s), s, a, []int{idle, publish}, []string{"", ""}, []done{{1, api.ErrFull}, {2, api.ErrNone}})
			if !same(o.s, s) || !same(o.d, filesOf(s)) {
				t.Errorf("a slot without room: %s", briefOutcome(o))
			}
			continue
		}
		dat, del := fmt.Sprintf("v.%d.%d.dat", num%4, num+1), fmt.Sprintf("v.%d.%d.del", num%4, num)
		o := checkStages(t, filesOf(s), s, a, []int{idle, create, super, superSync, newJournal, rotate, idle, write, sync, publish}, []string{
			"", " create " + dat, " append " + dat + " 16", " sync " + dat + " 16", " create " + del, "", "", " append " + dat + " 56", " sync " + dat + " 56", "",
		}, []done{{1, api.OK}, {2, api.OK}})
		want := plus(filesOf(s), disk.File{Name: del})
		want = plus(want, disk.File{Name: dat, Base: slices.Concat(superblock(num%4, num+1, 0), record(live(put(1, 2, 3))), record(gone(1, 2)))})
		if !same(o.d, want) || !same(o.a, state{Next: 3}) {
			t.Errorf("the end: %s", briefOutcome(o))
		}
		if len(o.s.Gens) != 2 || o.s.Gens[0].Mode != frozen || o.s.Gens[1].Num != num+1 || o.s.Gens[1].Size != 72 {
			t.Errorf("the slot at the end: %s", briefSlot(o.s))
		}
	}
}

// A pause in each stage of a batch and of a new generation: what was begun is ended,
// and nothing is begun until the end of the pause.
func TestPauseInEachStage(t *testing.T) {
	s := three()
	s.Gens[2] = of(6, writable, 4920, s.Gens[2].Map.Stripes[3][0])
	for _, l := range [][]req{{drop(2, 25), put(9, 9, 40)}, {put(9, 9, 80)}} {
		for pause := range 10 {
			o := outcome{d: filesOf(s), s: s, a: queued(l...)}
			for i := 0; appender.Runnable(o.a); i++ {
				if i == pause {
					o.a = appender.Pause(o.a)
					o.a, _ = appender.Submit(o.a, drop(5, 55))
					if o.a.Stage == idle {
						break
					}
				}
				before := o.a
				if o = checkStep(t, o.d, o.s, o.a); o.e != api.OK || o.a.Paused != before.Paused {
					t.Fatalf("pause at %d: %s", pause, briefOutcome(o))
				}
			}
			if o.a.Stage != idle || len(o.a.Batch) != 0 {
				t.Errorf("pause at %d: %s", pause, brief(o.a))
			}
			if x := checkStep(t, o.d, o.s, o.a); x.e != api.ErrState {
				t.Errorf("pause at %d: a step of %s: %v", pause, brief(o.a), x.e)
			}
			o.a = appender.Resume(o.a)
			for appender.Runnable(o.a) {
				o = checkStep(t, o.d, o.s, o.a)
			}
			if at, ok := slot.Find(o.s, 9); !ok || at.Item.Cookie != 9 || len(o.a.Queue) != 0 {
				t.Errorf("pause at %d: %s", pause, briefOutcome(o))
			}
		}
	}
}

// Batches of at most 16 requests and 16384 bytes are taken from the queue in order.
func TestManyBatches(t *testing.T) {
	var l []req
	for i := range 40 {
		l = append(l, put(uint64(i), 1, 5))
	}
	for i := range 9 {
		l = append(l, put(uint64(i), 2, 4072))
	}
	s := fresh(0, 262144)
	o := outcome{d: filesOf(s), s: s, a: queued(l...)}
	var takes []int
	ticket := int64(1)
	for appender.Runnable(o.a) {
		if o = checkStep(t, o.d, o.s, o.a); o.e != api.OK {
			t.Fatal(briefOutcome(o))
		}
		for _, x := range o.l {
			if x != (done{Ticket: ticket}) {
				t.Errorf("answer %v, want the ticket %d", x, ticket)
			}
			ticket++
		}
		if len(o.l) > 0 {
			takes = append(takes, len(o.l))
		}
	}
	if !slices.Equal(takes, []int{16, 16, 11, 4, 2}) {
		t.Errorf("the batches have %v requests", takes)
	}
}

// The Batch and the Queue of a state are memory of their own, and so are the answers:
// who adds something behind the end of one of them changes no other.
func TestListsAreMemoryOfTheirOwn(t *testing.T) {
	s := fresh(1, 5000)
	a := queued(put(1, 1, 1), put(2, 2, 4090), put(3, 3, 3000), put(4, 4, 4))
	before := copied(a)
	o := checkStep(t, filesOf(s), s, a)
	if o.e != api.OK || len(o.a.Batch) != 2 || len(o.a.Queue) != 2 {
		t.Fatalf("the first step: %s", briefOutcome(o))
	}
	_ = append(o.a.Batch, req{})
	_ = append(o.a.Queue, req{})
	if o.a.Queue[0].Key != 3 || !same(a, before) {
		t.Errorf("a Queue is changed: %s", brief(o.a))
	}
	for i := range o.a.Batch {
		o.a.Batch[i] = req{}
	}
	for i := range o.a.Queue {
		o.a.Queue[i] = req{}
	}
	if !same(a, before) {
		t.Errorf("the Queue of the state before is changed: %s", brief(a))
	}
	results := []errno{api.OK, api.ErrFull}
	x := checkStep(t, filesOf(s), s, state{Stage: publish, Batch: []req{{Ticket: 3}, {Ticket: 2}}, Plan: plan{Results: results}})
	x.l[0].Result = api.ErrArg
	if results[0] != api.OK {
		t.Error("an answer is a result of the plan")
	}
}

// With the Rotate of a plan the stage decides what happens, as the table says: Publish
// answers, Rotate does not, and both apply the plan.
func TestStageDecides(t *testing.T) {
	s := three()
	for _, p := range []plan{{Rotate: true}, {Kills: []kill{lost(5, 5)}, Needles: []api.Needle{gone(6, 66)}}} {
		want, e := batch.Apply(s, p)
		if e != api.OK {
			t.Fatal(e)
		}
		p.Results = []errno{api.ErrFull}
		a := state{Batch: []req{{Ticket: 9}}, Plan: p, Queue: []req{{Ticket: 10}}, At: 5, Paused: true, Next: 11, Stage: publish}
		left := state{Queue: a.Queue, Paused: true, Next: 11}
		if o := checkStep(t, filesOf(s), s, a); o.e != api.OK || !same(o.s, want) || !same(o.a, left) || !slices.Equal(o.l, []done{{9, api.ErrFull}}) {
			t.Errorf("Publish: %s", briefOutcome(o))
		}
		a.Stage = rotate
		if o := checkStep(t, filesOf(s), s, a); o.e != api.OK || !same(o.s, want) || !same(o.a, left) || len(o.l) != 0 {
			t.Errorf("Rotate: %s", briefOutcome(o))
		}
	}
}
