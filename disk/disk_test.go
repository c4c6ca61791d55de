package disk_test

import (
	"bytes"
	"fmt"
	"math"
	"math/rand"
	"slices"
	"strings"
	"testing"

	"needlestore/api"
	"needlestore/disk"
)

// Some Writes: data at an offset, and a cut.
func data(off int64, s string) disk.Write { return disk.Write{Off: off, Data: []byte(s)} }

func cut(off int64) disk.Write { return disk.Write{Off: off, Cut: true} }

func file(name, base string, l ...disk.Write) disk.File {
	return disk.File{Name: name, Base: []byte(base), Pend: l}
}

func store(l ...disk.File) disk.Disk { return disk.Disk{Left: -1, Files: l} }

// three returns a disk with three files: one with Writes, one without, and one without anything.
func three() disk.Disk {
	return store(file("a", "hello", data(0, "HE"), data(5, "!!"), cut(6), data(6, "end")), file("b", "world"), file("c.1-x", ""))
}

// many returns a disk with n files, with free names before, between and behind them.
func many(n int) disk.Disk {
	d := store()
	for i := range n {
		d.Files = append(d.Files, file(spot(2*i+1), fmt.Sprint("file ", i), data(int64(i%5), "<>")))
	}
	return d
}

// spot returns names in ascending order.
func spot(i int) string { return fmt.Sprintf("%04d", i) }

func with(d disk.Disk, limit, left int64) disk.Disk {
	d.Cap, d.Left = limit, left
	return d
}

// The chapter's examples.

func TestExamples(t *testing.T) {
	if x, e := disk.Append(disk.New(0), "a", []byte("abc")); e != api.ErrNone || !same(x, disk.Disk{}) {
		t.Errorf("Append without a file: %s, error %d", brief(x), e)
	}
	d, e := disk.Create(disk.New(0), "a")
	if e != api.OK {
		t.Fatal(e)
	}
	d, e = disk.Append(d, "a", []byte("abc"))
	if e != api.OK {
		t.Fatal(e)
	}
	if x := disk.Crash(d, nil); !same(x, store(file("a", ""))) {
		t.Errorf("Crash without Keep: %s", brief(x))
	}
	if x := disk.Crash(d, []disk.Keep{{Name: "a", Writes: 0, Torn: 2}}); !same(x, store(file("a", "ab"))) {
		t.Errorf("Crash with two bytes: %s", brief(x))
	}
}

// Promise 10.1: names.

func checkName(t *testing.T, s string, want bool) {
	t.Helper()
	if disk.ValidName(s) != want {
		t.Errorf("ValidName of %q is not %v", s, want)
	}
	if disk.Valid(store(file(s, ""))) != want {
		t.Errorf("Valid of a disk with the name %q is not %v", s, want)
	}
}

func TestNamesOfEachByte(t *testing.T) {
	for c := range 256 {
		b := string([]byte{byte(c)})
		want := c >= 97 && c <= 122 || c >= 48 && c <= 57 || c == 46 || c == 45
		for _, around := range [][2]string{{"", ""}, {"a", ""}, {"", "a"}, {"z.0", "9-z"}, {strings.Repeat("x", 39), ""}, {"", strings.Repeat("x", 39)}, {strings.Repeat("x", 20), strings.Repeat("x", 19)}} {
			checkName(t, around[0]+b+around[1], want)
		}
		checkName(t, strings.Repeat("x", 40)+b, false)
	}
	for _, s := range []string{"é", "a\u00e9", "\u0430", "ａ", "a\n", "a b", "../a", "a/b", "a_b", "A", "\x00", "a\x00"} {
		checkName(t, s, false)
	}
	for _, s := range []string{".", "..", "-", "0", "v.0.1.dat", "v.3.8.ec5.tmp"} {
		checkName(t, s, true)
	}
}

func TestNamesOfEachLength(t *testing.T) {
	for _, c := range []string{"a", "z", "0", "9", ".", "-"} {
		for n := range 3 * maxName {
			checkName(t, strings.Repeat(c, n), n >= 1 && n <= maxName)
		}
	}
	checkName(t, strings.Repeat("a", 1<<20), false)
	checkName(t, strings.Repeat("é", 20), false)
}

// Promise 10.1: contents.

func TestContentByHand(t *testing.T) {
	for _, x := range []struct {
		f    disk.File
		want string
	}{
		{file("a", ""), ""}, {file("a", "hello"), "hello"},
		{file("a", "hello", data(0, "J")), "Jello"}, {file("a", "hello", data(1, "xyz")), "hxyzo"}, {file("a", "hello", data(4, "!")), "hell!"},
		{file("a", "hello", data(0, "world")), "world"}, {file("a", "hello", data(3, "abcd")), "helabcd"}, {file("a", "hello", data(0, "longer one")), "longer one"},
		{file("a", "hello", data(5, "!")), "hello!"}, {file("a", "hello", data(7, "!")), "hello\x00\x00!"}, {file("a", "", data(2, "x")), "\x00\x00x"},
		{file("a", "hello", data(2, "")), "hello"}, {file("a", "hello", data(5, "")), "hello"}, {file("a", "hello", data(8, "")), "hello\x00\x00\x00"}, {file("a", "", data(0, "")), ""},
		{file("a", "hello", cut(0)), ""}, {file("a", "hello", cut(3)), "hel"}, {file("a", "hello", cut(5)), "hello"}, {file("a", "hello", cut(6)), "hello"}, {file("a", "hello", cut(maxFile)), "hello"},
		{file("a", "hello", cut(2), data(4, "!")), "he\x00\x00!"}, {file("a", "hello", cut(2), data(3, "!"), cut(3)), "he\x00"}, {file("a", "hello", cut(2), data(5, "")), "he\x00\x00\x00"},
		{file("a", "hello", data(5, "!!"), cut(6), data(7, "")), "hello!\x00"}, {file("a", "hello", cut(3), cut(4), data(4, "o")), "hel\x00o"}, {file("a", "hello", cut(4), cut(3), data(4, "o")), "hel\x00o"},
		{file("a", "hello", data(1, "aaa"), data(2, "b")), "habao"}, {file("a", "ab", data(4, "x"), cut(3)), "ab\x00"},
		{three().Files[0], "HEllo!end"},
	} {
		checkContent(t, x.f, x.want)
		if string(content(x.f)) != x.want {
			t.Errorf("the tests' content of %s is %q", briefFile(x.f), content(x.f))
		}
		for _, name := range []string{"", "A", "\xff", strings.Repeat("a", maxName+1)} {
			x.f.Name = name
			checkContent(t, x.f, x.want)
		}
	}
}

// writes returns n random Writes, most of which end within the first few bytes.
func writes(r *rand.Rand, n int) []disk.Write {
	var l []disk.Write
	for range n {
		w := disk.Write{Off: int64(r.Intn(14))}
		if r.Intn(3) == 0 {
			w.Cut = true
		} else {
			w.Data = make([]byte, r.Intn(7))
			for i := range w.Data {
				w.Data[i] = byte(1 + r.Intn(255))
			}
		}
		l = append(l, w)
	}
	return l
}

func random(r *rand.Rand, n int) []byte {
	b := make([]byte, n)
	r.Read(b)
	return b
}

func TestContentOfRandomWrites(t *testing.T) {
	r := rand.New(rand.NewSource(1))
	for range 20000 {
		f := disk.File{Name: "a", Base: random(r, r.Intn(12)), Pend: writes(r, r.Intn(9))}
		checkContent(t, f, string(content(f)))
		checkValid(t, "random writes", store(f), true)
	}
}

// All short sequences of a few Writes.
func TestContentOfAllShortSequences(t *testing.T) {
	few := []disk.Write{data(0, "ab"), data(1, "c"), data(2, "de"), data(3, "f"), data(4, ""), cut(0), cut(1), cut(3)}
	var l []disk.Write
	var visit func(n int)
	visit = func(n int) {
		for _, base := range []string{"", "xyz"} {
			f := file("a", base, l...)
			checkContent(t, f, string(content(f)))
		}
		for i := 0; n > 0 && i < len(few); i++ {
			l = append(l, few[i])
			visit(n - 1)
			l = l[:len(l)-1]
		}
	}
	visit(4)
}

func TestContentOfLongFiles(t *testing.T) {
	r := rand.New(rand.NewSource(2))
	long := random(r, maxFile)
	for _, f := range []disk.File{
		{Base: long}, {Base: long, Pend: []disk.Write{data(maxFile, "")}}, {Base: long, Pend: []disk.Write{data(maxFile-3, "end")}}, {Pend: []disk.Write{{Data: long}}},
		{Base: []byte("x"), Pend: []disk.Write{data(maxFile, "")}}, {Base: []byte("x"), Pend: []disk.Write{data(maxFile-1, "y")}}, {Base: long, Pend: []disk.Write{cut(maxFile - 1)}}, {Base: long, Pend: []disk.Write{cut(7), {Off: 9, Data: long[9:]}}},
	} {
		checkContent(t, f, string(content(f)))
	}
}

// Each Write makes the file as long as it can be, or cuts it off.
func TestContentOfVeryManyWrites(t *testing.T) {
	f := file("a", "hello")
	for range 100000 {
		f.Pend = append(f.Pend, data(maxFile, ""), cut(2))
	}
	f.Pend = append(f.Pend, data(4, "!"))
	if b := disk.Content(f); string(b) != "he\x00\x00!" {
		t.Errorf("Content = %s", briefBytes(b))
	}
	if !disk.Valid(store(f)) {
		t.Error("not valid")
	}
}

// unsound returns files that no valid disk has, because of their Base or Pend alone.
func unsound() []disk.File {
	long := make([]byte, maxFile)
	tooLong := make([]byte, maxFile+1)
	return []disk.File{
		{Base: tooLong}, {Base: tooLong, Pend: []disk.Write{cut(0)}}, {Pend: []disk.Write{{Data: tooLong}}}, {Base: long, Pend: []disk.Write{data(maxFile, "x")}},
		{Base: long, Pend: []disk.Write{data(maxFile, "x"), cut(0)}}, {Base: long, Pend: []disk.Write{cut(0), {Off: 1, Data: long}, cut(3), data(3, "abc")}},
		file("", "hello", data(-1, "")), file("", "hello", data(-1, "x")), file("", "hello", cut(-1)), file("", "hello", data(math.MinInt64, "x")), file("", "hello", cut(math.MinInt64)),
		file("", "hello", data(maxFile+1, "")), file("", "hello", cut(maxFile+1)), file("", "hello", data(math.MaxInt64, "")), file("", "hello", data(math.MaxInt64, "x")), file("", "hello", cut(math.MaxInt64)),
		file("", "hello", data(maxFile, "x")), file("", "hello", data(maxFile-2, "abc")), file("", "hello", data(maxFile, "x"), cut(5)),
		{Base: []byte("hello"), Pend: []disk.Write{{Cut: true, Data: []byte("x")}}}, {Base: []byte("hello"), Pend: []disk.Write{{Off: 2, Cut: true, Data: []byte("hello")}}},
	}
}

func TestFilesThatNoDiskHas(t *testing.T) {
	fine := []disk.Write{data(0, "ok"), cut(1), data(1, "k")}
	for _, f := range unsound() {
		for _, g := range []disk.File{f, {Base: f.Base, Pend: slices.Concat(fine, f.Pend)}, {Base: f.Base, Pend: slices.Concat(f.Pend, fine)}, {Base: f.Base, Pend: slices.Concat(fine, f.Pend, []disk.Write{cut(0)})}} {
			for _, name := range []string{"", "b", "B"} {
				g.Name = name
				checkContent(t, g, "")
				checkValid(t, "a file that no disk has", store(g), false)
				checkValid(t, "a file that no disk has between others", store(file("a", ""), g, file("c", "")), false)
			}
		}
	}
}

// Promise 10.1: valid disks.

func TestValidDisks(t *testing.T) {
	for _, d := range []disk.Disk{{}, store(), three(), many(maxFiles), many(1)} {
		for _, limit := range []int64{0, 1, 10, 1 << 40, math.MaxInt64} {
			for _, left := range []int64{-1, 0, 1, 2, math.MaxInt64} {
				checkValid(t, "a valid disk", with(d, limit, left), true)
			}
		}
		for _, n := range []int64{-2, -3, -1 << 40, math.MinInt64} {
			checkValid(t, "Cap below 0", with(d, n, -1), false)
			checkValid(t, "Left below -1", with(d, 0, n), false)
		}
		checkValid(t, "Cap -1", with(d, -1, -1), false)
	}
}

func TestValidOfNumbersOfFiles(t *testing.T) {
	for n := range maxFiles + 20 {
		checkValid(t, "a number of files", many(n), n <= maxFiles)
	}
}

func TestValidOfNamesInOrder(t *testing.T) {
	names := []string{"", "-", ".", "0", "9", "A", "a", "a-", "a.", "a0", "aa", "b", "z", "z~", strings.Repeat("z", maxName), strings.Repeat("z", maxName+1)}
	for _, x := range names {
		for _, y := range names {
			checkValid(t, "two names", store(file(x, ""), file(y, "")), validName(x) && validName(y) && x < y)
			for _, z := range names {
				checkValid(t, "three names", store(file(x, ""), file(y, ""), file(z, "")), validName(x) && validName(y) && validName(z) && x < y && y < z)
			}
		}
	}
}

func TestValidWithOneMistake(t *testing.T) {
	for _, n := range []int{1, 2, 3, maxFiles} {
		for i := range n {
			for what, change := range map[string]func(f *disk.File){
				"no name":         func(f *disk.File) { f.Name = "" },
				"a wrong name":    func(f *disk.File) { f.Name += "_" },
				"Off below 0":     func(f *disk.File) { f.Pend = append(f.Pend, data(-1, "x")) },
				"Off of a cut":    func(f *disk.File) { f.Pend = append(f.Pend, cut(maxFile+1)) },
				"a cut with Data": func(f *disk.File) { f.Pend = append(f.Pend, disk.Write{Cut: true, Data: []byte{0}}) },
			} {
				d := many(n)
				checkValid(t, "no mistake", d, true)
				change(&d.Files[i])
				checkValid(t, what, d, false)
			}
			if i > 0 {
				d := many(n)
				d.Files[i].Name = d.Files[i-1].Name
				checkValid(t, "a name twice", d, false)
				d = many(n)
				d.Files[i], d.Files[i-1] = d.Files[i-1], d.Files[i]
				checkValid(t, "two files exchanged", d, false)
			}
		}
	}
}

func TestValidOfTheLengthAfterEachWrite(t *testing.T) {
	for _, over := range []int64{-2, -1, 0, 1, 2} {
		for n := range 4 {
			l := []disk.Write{data(3, "abc"), cut(2), data(maxFile-4, "defg"), cut(5), data(0, "h")}
			l = slices.Insert(l, n, disk.Write{Off: maxFile - 10 + over, Data: make([]byte, 10)})
			checkValid(t, "a length after a Write", store(disk.File{Name: "a", Pend: l}), over <= 0)
			checkContent(t, disk.File{Name: "a", Pend: l}, string(content(disk.File{Pend: l})))
		}
		checkValid(t, "the length of a Base", store(disk.File{Name: "a", Base: make([]byte, maxFile+over)}), over <= 0)
		checkValid(t, "the length of a Base that is cut", store(disk.File{Name: "a", Base: make([]byte, maxFile+over), Pend: []disk.Write{cut(0)}}), over <= 0)
		checkValid(t, "the Off of a Write", store(file("a", "", data(maxFile+over, ""))), over <= 0)
		checkValid(t, "the Off of a cut", store(file("a", "", cut(maxFile+over))), over <= 0)
	}
	checkValid(t, "a cut with no bytes as Data", store(disk.File{Name: "a", Pend: []disk.Write{{Cut: true, Data: []byte{}}}}), true)
}

// Promise 10.1: New and Arm.

func numbers() []int64 {
	return []int64{math.MinInt64, math.MinInt64 + 1, -1 << 32, -3, -2, -1, 0, 1, 2, 3, maxFile, 1 << 32, math.MaxInt64 - 1, math.MaxInt64}
}

func TestNew(t *testing.T) {
	for _, n := range numbers() {
		want := disk.Disk{Cap: n, Left: -1}
		if n < 0 {
			want.Cap = 0
		}
		if d := disk.New(n); !same(d, want) || !disk.Valid(d) {
			t.Errorf("New of %d = %s", n, brief(d))
		}
	}
}

func TestArm(t *testing.T) {
	for _, n := range numbers() {
		for _, d := range []disk.Disk{disk.New(7), three(), with(three(), 5, 0), with(three(), 5, 9), with(three(), -5, -9), many(maxFiles + 1)} {
			kept := clone(d)
			want := with(d, d.Cap, n)
			if n < 0 {
				want.Left = -1
			}
			if x := disk.Arm(d, n); !same(x, want) || !same(d, kept) {
				t.Errorf("Arm of %s with %d = %s", brief(kept), n, brief(x))
			}
		}
	}
}

// Promise 10.2.

func TestNames(t *testing.T) {
	for n := range maxFiles + 3 {
		for _, left := range []int64{-1, 0, 1} {
			d := with(many(n), 1, left)
			var want []string
			for i := 0; i < n && n <= maxFiles; i++ {
				want = append(want, spot(2*i+1))
			}
			if l := disk.Names(d); !slices.Equal(l, want) {
				t.Errorf("%d files: names %v", n, l)
			}
		}
	}
	for i, d := range broken() {
		if l := disk.Names(d); len(l) != 0 {
			t.Errorf("broken disk %d: names %v", i, l)
		}
	}
}

func TestReadOfEachRange(t *testing.T) {
	for _, f := range []disk.File{three().Files[0], file("a", "hello"), file("a", ""), file("a", "", data(3, "x"), cut(2), data(4, "y")), file("a", "hello", cut(0))} {
		d := store(f, file("b", "other"))
		n := int64(len(content(f)))
		for off := int64(-3); off <= n+3; off++ {
			for m := int64(-3); m <= n+4; m++ {
				check(t, d, call{kind: "Read", name: "a", off: off, n: m})
			}
			for _, m := range numbers() {
				check(t, d, call{kind: "Read", name: "a", off: off, n: m})
				check(t, d, call{kind: "Read", name: "a", off: m, n: off})
			}
		}
		for _, off := range numbers() {
			for _, m := range numbers() {
				check(t, d, call{kind: "Read", name: "a", off: off, n: m})
			}
		}
		checkError(t, d, call{kind: "Read", name: "a", n: n}, api.OK)
		checkError(t, d, call{kind: "Read", name: "a", off: n}, api.OK)
		checkError(t, d, call{kind: "Read", name: "a", off: n, n: math.MaxInt64}, api.ErrRange)
		checkError(t, d, call{kind: "Size", name: "a"}, api.OK)
	}
}

func TestReadOfRandomWrites(t *testing.T) {
	r := rand.New(rand.NewSource(3))
	for range 5000 {
		d := store(disk.File{Name: "a", Base: random(r, r.Intn(12)), Pend: writes(r, r.Intn(9))})
		for range 4 {
			check(t, d, call{kind: "Read", name: "a", off: int64(r.Intn(12)), n: int64(r.Intn(8))})
		}
		check(t, d, call{kind: "Size", name: "a"})
	}
}

// Promises 10.2, 10.3 and 10.5: errors, and their order.

// broken returns disks that are not valid, most of which have one mistake only.
func broken() []disk.Disk {
	l := []disk.Disk{with(three(), -1, -1), with(three(), math.MinInt64, 0), with(three(), -1, -2), with(three(), 0, -2), with(three(), 0, math.MinInt64), with(many(maxFiles+1), 0, 0), many(maxFiles + 1)}
	for _, change := range []func(d *disk.Disk){
		func(d *disk.Disk) { slices.Reverse(d.Files) },
		func(d *disk.Disk) { d.Files[1].Name = "a" },
		func(d *disk.Disk) { d.Files[2].Name = "C" },
		func(d *disk.Disk) { d.Files[2].Pend = []disk.Write{data(-1, "")} },
		func(d *disk.Disk) { d.Files[2].Pend = []disk.Write{{Cut: true, Data: []byte{1}}} },
		func(d *disk.Disk) { d.Files[2].Pend = []disk.Write{data(maxFile+1, ""), cut(0)} },
	} {
		for _, left := range []int64{-1, 0, 3} {
			d := with(three(), 12, left)
			change(&d)
			l = append(l, d)
		}
	}
	d := three()
	d.Files[0].Pend = append(d.Files[0].Pend, data(maxFile, "x"), cut(0))
	return append(l, d)
}

// allDisks returns disks of many kinds, also broken ones.
func allDisks() []disk.Disk {
	l := broken()
	for _, left := range []int64{-1, 0, 1, 2, math.MaxInt64} {
		for _, limit := range []int64{0, 1, 13, 14, 15, 17, 1 << 40} {
			l = append(l, with(three(), limit, left))
		}
		l = append(l, with(disk.New(0), 0, left), with(disk.New(0), 2, left), with(many(2), 0, left), with(many(maxFiles), 0, left), with(many(maxFiles), 5, left))
	}
	return l
}

// allCalls returns calls of all kinds with many arguments, also with such as are errors.
func allCalls() []call {
	names := []string{"a", "b", "c.1-x", "d", spot(1), spot(2), "", "A"}
	offs := []int64{math.MinInt64, -1, 0, 1, 5, 7, 8, 9, 10, 39, 40, 1000, math.MaxInt64}
	var l []call
	for _, name := range names {
		for _, kind := range []string{"Create", "Sync", "Remove", "Size"} {
			l = append(l, call{kind: kind, name: name})
		}
		for _, to := range names {
			l = append(l, call{kind: "Rename", name: name, to: to})
		}
		for _, b := range [][]byte{nil, {1}, []byte("abc"), make([]byte, maxFile+1)} {
			l = append(l, call{kind: "Append", name: name, b: b})
			for _, off := range offs {
				if len(b) <= maxFile || off == 5 || off == 10 {
					l = append(l, call{kind: "Put", name: name, off: off, b: b})
				}
			}
		}
		for _, off := range offs {
			l = append(l, call{kind: "Truncate", name: name, off: off}, call{kind: "Flip", name: name, off: off})
			for _, n := range []int64{-1, 0, 5, 9, 10, math.MaxInt64} {
				l = append(l, call{kind: "Read", name: name, off: off, n: n})
			}
		}
	}
	return l
}

// order returns the errors of a kind of calls, in order.
func order(kind string) []api.Errno {
	l := []api.Errno{api.ErrArg, api.ErrDown, api.ErrNone}
	switch kind {
	case "Create":
		return []api.Errno{api.ErrArg, api.ErrDown, api.ErrExists, api.ErrFull}
	case "Append":
		return append(l, api.ErrFull)
	case "Put":
		return append(l, api.ErrRange, api.ErrFull)
	case "Read", "Truncate":
		return append(l, api.ErrRange)
	case "Flip":
		return []api.Errno{api.ErrArg, api.ErrNone, api.ErrState, api.ErrRange}
	}
	return l
}

func TestErrorsInOrder(t *testing.T) {
	type pair struct {
		kind          string
		first, second api.Errno
	}
	seen := map[pair]bool{}
	for _, d := range allDisks() {
		for _, c := range allCalls() {
			check(t, d, c)
			l := faults(d, c)
			for i, first := range l {
				seen[pair{c.kind, first, 0}] = true
				for _, second := range l[i+1:] {
					seen[pair{c.kind, first, second}] = true
				}
			}
		}
	}
	for _, kind := range kinds() {
		l := order(kind)
		for i, first := range l {
			for _, second := range append(l[i+1:], 0) {
				if !seen[pair{kind, first, second}] && !(first == api.ErrNone && second == api.ErrState) {
					t.Errorf("%s: the errors %d and %d do not occur together", kind, first, second)
				}
			}
		}
	}
}

func TestErrorsByHand(t *testing.T) {
	d, down := three(), with(three(), 0, 0)
	for _, kind := range kinds() {
		checkError(t, d, call{kind: kind, name: "A", to: "x"}, api.ErrArg)
		checkError(t, with(d, 0, -2), call{kind: kind, name: "b", to: "x"}, api.ErrArg)
		if kind != "Create" {
			checkError(t, d, call{kind: kind, name: "x", to: "y"}, api.ErrNone)
		}
		if kind != "Flip" {
			checkError(t, down, call{kind: kind, name: "x", to: "y", off: -1}, api.ErrDown)
			checkError(t, down, call{kind: kind, name: "a", to: "y", off: -1}, api.ErrDown)
		}
	}
	checkError(t, d, call{kind: "Rename", name: "a", to: "A"}, api.ErrArg)
	checkError(t, down, call{kind: "Rename", name: "x", to: ""}, api.ErrArg)
	checkError(t, d, call{kind: "Rename", name: "x", to: "x"}, api.ErrNone)
	checkError(t, d, call{kind: "Create", name: "a"}, api.ErrExists)
	checkError(t, many(maxFiles), call{kind: "Create", name: spot(1)}, api.ErrExists)
	checkError(t, many(maxFiles), call{kind: "Create", name: spot(2)}, api.ErrFull)
	checkError(t, many(maxFiles-1), call{kind: "Create", name: spot(2)}, api.OK)
	checkError(t, d, call{kind: "Put", name: "a", off: 10, b: make([]byte, maxFile)}, api.ErrRange)
	checkError(t, d, call{kind: "Put", name: "a", off: 9, b: make([]byte, maxFile)}, api.ErrFull)
	checkError(t, d, call{kind: "Flip", name: "a", off: -1}, api.ErrState)
	checkError(t, down, call{kind: "Flip", name: "x", off: -1}, api.ErrNone)
	checkError(t, down, call{kind: "Flip", name: "b", off: 40}, api.ErrRange)
}

// Promise 10.3: the next states.

func TestOperationsAtEachPlace(t *testing.T) {
	for _, n := range []int{0, 1, 2, 3, 4, maxFiles - 1, maxFiles} {
		d := many(n)
		for i := range 2*n + 1 {
			if i > 6 && i < 2*n-6 && i%32 > 1 {
				continue
			}
			for _, kind := range kinds() {
				c := call{kind: kind, name: spot(i), to: spot(2 * n), off: 2, n: 3, b: []byte("xyz")}
				check(t, d, c)
				if (i%2 == 1) == (kind == "Create") || kind == "Create" && n == maxFiles || kind == "Flip" {
					continue
				}
				checkNext(t, d, c)
			}
		}
	}
}

func TestRenameAtEachPlace(t *testing.T) {
	for _, n := range []int{1, 2, 3, 6} {
		d := many(n)
		for i := range 2*n + 1 {
			for j := range 2*n + 1 {
				check(t, d, call{kind: "Rename", name: spot(i), to: spot(j)})
			}
			x := checkNext(t, d, call{kind: "Rename", name: spot(1), to: spot(i)})
			if len(x.Files) != n && i%2 == 0 || len(x.Files) != n-1 && i%2 == 1 && i > 1 || i == 1 && !same(x, d) {
				t.Errorf("%d files: %s", n, brief(x))
			}
		}
	}
	d := many(maxFiles)
	for i := range 2*maxFiles + 1 {
		name := spot([]int{1, 257, 2*maxFiles - 1}[i%3])
		checkNext(t, d, call{kind: "Rename", name: name, to: spot(i)})
	}
}

func TestRenameByHand(t *testing.T) {
	d := three()
	a, b, c := d.Files[0], d.Files[1], d.Files[2]
	as := func(f disk.File, name string) disk.File { f.Name = name; return f }
	for _, x := range []struct {
		from, to string
		want     disk.Disk
	}{
		{"a", "0", store(as(a, "0"), b, c)}, {"a", "aa", store(as(a, "aa"), b, c)}, {"a", "bb", store(b, as(a, "bb"), c)}, {"a", "d", store(b, c, as(a, "d"))},
		{"a", "b", store(as(a, "b"), c)}, {"a", "c.1-x", store(b, as(a, "c.1-x"))}, {"b", "a", store(as(b, "a"), c)}, {"c.1-x", "a", store(as(c, "a"), b)},
		{"a", "a", d}, {"b", "b", d}, {"c.1-x", "c.1-x", d},
	} {
		got, e := disk.Rename(d, x.from, x.to)
		if e != api.OK || !same(got, x.want) {
			t.Errorf("Rename of %s to %s = %s, error %d", x.from, x.to, brief(got), e)
		}
	}
}

func TestWritesByHand(t *testing.T) {
	for _, x := range []struct {
		c    call
		want disk.File
	}{
		{call{kind: "Append", b: []byte("!")}, file("b", "world", data(5, "!"))},
		{call{kind: "Append"}, file("b", "world", data(5, ""))},
		{call{kind: "Put", off: 1, b: []byte("xy")}, file("b", "world", data(1, "xy"))},
		{call{kind: "Put", off: 5, b: []byte("xy")}, file("b", "world", data(5, "xy"))},
		{call{kind: "Put", off: 5}, file("b", "world", data(5, ""))},
		{call{kind: "Put"}, file("b", "world", data(0, ""))},
		{call{kind: "Truncate", off: 5}, file("b", "world", cut(5))},
		{call{kind: "Truncate", off: 2}, file("b", "world", cut(2))},
		{call{kind: "Truncate"}, file("b", "world", cut(0))},
		{call{kind: "Sync"}, file("b", "world")},
	} {
		x.c.name = "b"
		d := three()
		want := three()
		want.Files[1] = x.want
		if got := do(d, x.c); got.err != api.OK || !same(got.disk, want) {
			t.Errorf("%s: %s, error %d", briefCall(x.c), brief(got.disk), got.err)
		}
	}
	if x, e := disk.Sync(three(), "a"); e != api.OK || !sameFile(x.Files[0], file("a", "HEllo!end")) {
		t.Errorf("Sync: %s, error %d", brief(x), e)
	}
	if x, e := disk.Append(three(), "a", []byte("ing")); e != api.OK || string(disk.Content(x.Files[0])) != "HEllo!ending" || len(x.Files[0].Pend) != 5 {
		t.Errorf("Append: %s, error %d", brief(x), e)
	}
}

// Promise 10.3: MaxFile and Cap.

func TestLongestFiles(t *testing.T) {
	for _, size := range []int64{0, 1, 5, maxFile - 3, maxFile} {
		for _, d := range []disk.Disk{store(disk.File{Name: "a", Base: make([]byte, size)}), store(file("a", "", data(size, ""))), store(disk.File{Name: "a", Base: make([]byte, maxFile), Pend: []disk.Write{cut(size)}})} {
			for _, over := range []int64{-1, 0, 1} {
				want := api.OK
				if over > 0 {
					want = api.ErrFull
				}
				if n := maxFile - size + over; n >= 0 {
					checkError(t, d, call{kind: "Append", name: "a", b: make([]byte, n)}, want)
					checkError(t, d, call{kind: "Put", name: "a", off: size, b: make([]byte, n)}, want)
				}
				if off := size / 2; off > 0 {
					checkError(t, d, call{kind: "Put", name: "a", off: off, b: make([]byte, maxFile-off+over)}, want)
				}
			}
			checkError(t, d, call{kind: "Append", name: "a"}, api.OK)
			checkError(t, d, call{kind: "Put", name: "a", off: size}, api.OK)
		}
	}
}

func TestCap(t *testing.T) {
	for limit := range int64(22) {
		d := with(three(), limit, -1)
		for _, name := range []string{"a", "b", "c.1-x"} {
			f := d.Files[slices.Index(disk.Names(d), name)]
			size := int64(len(content(f)))
			for n := range 10 {
				b := make([]byte, n)
				want := api.OK
				if limit != 0 && n > 0 && 14+int64(n) > limit {
					want = api.ErrFull
				}
				checkError(t, d, call{kind: "Append", name: name, b: b}, want)
				for off := range size + 1 {
					want = api.OK
					if grows := off + int64(n) - size; limit != 0 && grows > 0 && 14+grows > limit {
						want = api.ErrFull
					}
					checkError(t, d, call{kind: "Put", name: name, off: off, b: b}, want)
				}
			}
			for _, kind := range []string{"Truncate", "Sync", "Remove", "Rename"} {
				checkError(t, d, call{kind: kind, name: name, to: "x"}, api.OK)
			}
		}
		checkError(t, d, call{kind: "Create", name: "x"}, api.OK)
	}
}

// What is cut off or removed is free again, without Sync.
func TestCapAfterwards(t *testing.T) {
	d := checkNext(t, with(three(), 14, -1), call{kind: "Truncate", name: "a", off: 4})
	checkError(t, d, call{kind: "Append", name: "b", b: make([]byte, 6)}, api.ErrFull)
	checkNext(t, d, call{kind: "Append", name: "b", b: make([]byte, 5)})
	d = checkNext(t, with(three(), 14, -1), call{kind: "Remove", name: "a"})
	checkError(t, d, call{kind: "Append", name: "b", b: make([]byte, 10)}, api.ErrFull)
	checkNext(t, d, call{kind: "Append", name: "b", b: make([]byte, 9)})
	d = checkNext(t, with(three(), 14, -1), call{kind: "Rename", name: "c.1-x", to: "b"})
	checkError(t, d, call{kind: "Append", name: "b", b: make([]byte, 6)}, api.ErrFull)
	checkNext(t, d, call{kind: "Append", name: "b", b: make([]byte, 5)})
	d = checkNext(t, store(file("a", "", data(0, "abc"), cut(0)), file("b", "x")), call{kind: "Put", name: "b", b: []byte("xyz")})
	d = with(d, 3, -1)
	checkError(t, d, call{kind: "Append", name: "a", b: []byte("a")}, api.ErrFull)
	checkError(t, with(d, 4, -1), call{kind: "Append", name: "a", b: []byte("a")}, api.OK)
}

// Promise 10.3: Left.

func TestLeft(t *testing.T) {
	for _, left := range []int64{-1, 1, 2, 3, math.MaxInt64} {
		d := with(three(), 0, left)
		next := left - 1
		if left == -1 {
			next = -1
		}
		for _, kind := range operations() {
			name, to := "a", "x"
			if kind == "Create" {
				name = "x"
			}
			for _, c := range []call{{kind: kind, name: name, to: to}, {kind: kind, name: name, to: name, b: []byte("x")}} {
				if x := checkNext(t, d, c); x.Left != next {
					t.Errorf("%s of %s: Left %d", briefCall(c), brief(d), x.Left)
				}
			}
		}
		if x := checkNext(t, d, call{kind: "Flip", name: "b"}); x.Left != left {
			t.Errorf("Flip of %s: Left %d", brief(d), x.Left)
		}
	}
}

// A disk is armed, and operations are done until it is down: those that do not succeed do not count.
func TestLeftCountsWhatSucceeds(t *testing.T) {
	for n := range int64(8) {
		d := disk.Arm(three(), n)
		done := int64(0)
		for i := range 40 {
			kind := operations()[i%7]
			c := call{kind: kind, name: "b", to: "b", off: 1, b: []byte("x")}
			if kind == "Create" || i%3 == 0 {
				c.name = "x"
			}
			if kind == "Remove" {
				c.name = "x"
			}
			x := do(d, c)
			check(t, d, c)
			if x.err == api.OK {
				d = x.disk
				done++
			}
			if d.Left != n-done || (x.err == api.ErrDown) != (d.Left == 0 && x.err != api.OK) {
				t.Errorf("armed with %d: after %d operations Left is %d, error %d", n, done, d.Left, x.err)
			}
		}
		if done != n {
			t.Errorf("armed with %d: %d operations succeed", n, done)
		}
	}
}

// Promise 10.4.

func TestCrashOfOneFile(t *testing.T) {
	files := []disk.File{
		three().Files[0], file("a", "hello"), file("a", ""), file("a", "", data(0, "abc")), file("a", "hello", cut(2)), file("a", "hello", cut(2), data(2, "xyz"), cut(0)),
		file("a", "hello", data(8, "far")), file("a", "hello", data(9, "")), file("a", "hello", data(3, "over the end"), data(0, ""), data(15, "!")), file("a", "hello", data(1, "xyz"), cut(7), cut(3), data(5, "uvw")),
	}
	for _, f := range files {
		for _, left := range []int64{-1, 0, 1, 7} {
			for _, limit := range []int64{0, 1, 100} {
				d := with(store(f), limit, left)
				checkCrash(t, d, nil)
				checkCrash(t, d, []disk.Keep{})
				for writes := -2; writes <= len(f.Pend)+2; writes++ {
					for torn := -2; torn <= 14; torn++ {
						checkCrash(t, d, []disk.Keep{{Name: "a", Writes: writes, Torn: torn}})
					}
				}
				for _, n := range []int{math.MinInt, -1, 0, 1, math.MaxInt} {
					for _, m := range []int{math.MinInt, -1, 0, 1, math.MaxInt} {
						checkCrash(t, d, []disk.Keep{{Name: "a", Writes: n, Torn: m}})
					}
				}
			}
		}
	}
}

func TestCrashByHand(t *testing.T) {
	far := file("a", "hello", data(8, "far"), cut(3), data(4, "o"))
	for _, x := range []struct {
		writes, torn int
		want         string
	}{
		{0, 0, "hello"}, {0, -1, "hello"}, {-1, 1, "hello\x00\x00\x00f"}, {0, 1, "hello\x00\x00\x00f"}, {0, 3, "hello\x00\x00\x00far"}, {0, 4, "hello\x00\x00\x00far"},
		{1, 0, "hello\x00\x00\x00far"}, {1, 5, "hello\x00\x00\x00far"}, {2, 0, "hel"}, {2, 1, "hel\x00o"}, {3, 0, "hel\x00o"}, {3, 3, "hel\x00o"}, {4, 0, "hel\x00o"},
	} {
		for _, d := range []disk.Disk{store(far), with(store(far), 3, 0), with(store(far), 0, 5)} {
			got := checkCrash(t, d, []disk.Keep{{Name: "a", Writes: x.writes, Torn: x.torn}})
			if want := with(store(file("a", x.want)), d.Cap, -1); !same(got, want) || !disk.Valid(got) {
				t.Errorf("Crash with %d and %d: %s", x.writes, x.torn, brief(got))
			}
		}
	}
}

func TestCrashOfSeveralFiles(t *testing.T) {
	r := rand.New(rand.NewSource(4))
	names := []string{"a", "b", "c.1-x", "d", "", "A", "aa"}
	for range 4000 {
		d := with(three(), int64(r.Intn(3)), int64(r.Intn(4)-1))
		for i := range d.Files {
			d.Files[i].Pend = writes(r, r.Intn(5))
		}
		var l []disk.Keep
		for range r.Intn(7) {
			l = append(l, disk.Keep{Name: names[r.Intn(len(names))], Writes: r.Intn(7) - 1, Torn: r.Intn(9) - 1})
		}
		if x := checkCrash(t, d, l); !disk.Valid(x) {
			t.Errorf("Crash of %s is not valid", brief(d))
		}
	}
}

// The first one of several Keeps with one name counts, in whatever order and between how many they are.
func TestCrashWithManyKeeps(t *testing.T) {
	r := rand.New(rand.NewSource(5))
	d := many(maxFiles)
	for _, n := range []int{1, 2, 3, 12, 13, 100, 2000, 20000} {
		var l []disk.Keep
		for range n {
			l = append(l, disk.Keep{Name: spot(r.Intn(2*maxFiles + 1)), Writes: r.Intn(2), Torn: r.Intn(3)})
		}
		checkCrash(t, d, l)
		for i := range l {
			l[i].Name = spot(1)
		}
		checkCrash(t, d, l)
	}
	for _, first := range []int{0, 1, 2, 3} {
		l := []disk.Keep{{Name: "b", Writes: 9}, {Name: "x", Writes: 9}, {Name: "a", Writes: first}, {Name: "a", Writes: 4}, {Name: "a"}, {Name: "A", Writes: 9}}
		want := []string{"hello", "HEllo", "HEllo!!", "HEllo!"}[first]
		if x := checkCrash(t, three(), l); !same(x, store(file("a", want), file("b", "world"), file("c.1-x", ""))) {
			t.Errorf("Crash with %v: %s", l, brief(x))
		}
	}
}

func TestCrashOfNoFilesAndOfDisksThatAreNotValid(t *testing.T) {
	for _, l := range [][]disk.Keep{nil, {{Name: "a", Writes: 1}}, {{}, {Name: "\xff"}}} {
		for _, left := range []int64{-1, 0, 1} {
			if x := checkCrash(t, with(disk.New(0), 9, left), l); !same(x, disk.New(9)) {
				t.Errorf("Crash of a disk without files: %s", brief(x))
			}
		}
		for _, d := range broken() {
			if x := checkCrash(t, d, l); !same(x, disk.Disk{}) {
				t.Errorf("Crash of %s: %s", brief(d), brief(x))
			}
		}
	}
}

func TestCrashOfLongFiles(t *testing.T) {
	long := make([]byte, maxFile)
	d := store(disk.File{Name: "a", Base: long, Pend: []disk.Write{data(maxFile-1, "x"), cut(1), {Off: 1, Data: long[1:]}}}, file("b", "", data(maxFile-2, "xy")))
	for writes := range 4 {
		for _, torn := range []int{0, 1, 2, maxFile - 2, maxFile - 1, maxFile} {
			l := []disk.Keep{{Name: "a", Writes: writes, Torn: torn}, {Name: "b", Torn: torn}}
			if x := checkCrash(t, d, l); !disk.Valid(x) {
				t.Errorf("Crash with %v is not valid", l)
			}
		}
	}
}

// Promise 10.5.

func TestFlipOfEachBit(t *testing.T) {
	for _, left := range []int64{-1, 0, 1, 9} {
		d := with(store(file("a", "one"), file("b", "hello\x00\xff"), file("c", "three", data(0, "T"))), 4, left)
		for bit := range int64(56) {
			x := check(t, d, call{kind: "Flip", name: "b", off: bit})
			want := clone(d)
			want.Files[1].Base[bit/8] ^= 1 << (bit % 8)
			if !same(x, want) {
				t.Errorf("bit %d: %s", bit, brief(x))
			}
			if y := check(t, x, call{kind: "Flip", name: "b", off: bit}); !same(y, d) {
				t.Errorf("bit %d changed twice: %s", bit, brief(y))
			}
		}
		for _, bit := range append(numbers(), 56, 57, 63, 64, math.MinInt64+7, math.MaxInt64-7) {
			if bit < 0 || bit >= 56 {
				checkError(t, d, call{kind: "Flip", name: "b", off: bit}, api.ErrRange)
			}
			checkError(t, d, call{kind: "Flip", name: "c", off: bit}, api.ErrState)
			checkError(t, d, call{kind: "Flip", name: "d", off: bit}, api.ErrNone)
			checkError(t, d, call{kind: "Flip", name: "", off: bit}, api.ErrArg)
		}
	}
	d := store(disk.File{Name: "a", Base: make([]byte, maxFile)})
	for _, bit := range []int64{0, 7, 8, 8*maxFile - 8, 8*maxFile - 1} {
		checkError(t, d, call{kind: "Flip", name: "a", off: bit}, api.OK)
	}
	checkError(t, d, call{kind: "Flip", name: "a", off: 8 * maxFile}, api.ErrRange)
	checkError(t, store(file("a", "")), call{kind: "Flip", name: "a"}, api.ErrRange)
	checkError(t, store(file("a", "x", data(0, ""))), call{kind: "Flip", name: "a"}, api.ErrState)
	checkError(t, store(file("a", "x", cut(1))), call{kind: "Flip", name: "a", off: 99}, api.ErrState)
}

func TestFlipByHand(t *testing.T) {
	for bit, want := range []string{"\x01\x80", "\x02\x80", "\x04\x80", "\x08\x80", "\x10\x80", "\x20\x80", "\x40\x80", "\x80\x80", "\x00\x81", "\x00\x82", "\x00\x84", "\x00\x88", "\x00\x90", "\x00\xa0", "\x00\xc0", "\x00\x00"} {
		x, e := disk.Flip(store(file("a", "\x00\x80")), "a", int64(bit))
		if e != api.OK || !same(x, store(file("a", want))) {
			t.Errorf("bit %d: %s, error %d", bit, brief(x), e)
		}
	}
}

// Promise 10.6.

// past is what is known of a file from the calls alone: its content at the last Sync
// and after each write from then on, and the writes.
type past struct {
	states []string
	torn   [][]string
}

// after adds a state, and the states that the write leaves if it is torn.
func (p past) after(state string, torn []string) past {
	return past{append(slices.Clone(p.states), state), append(slices.Clone(p.torn), torn)}
}

func (p past) now() string { return p.states[len(p.states)-1] }

// over returns what a write of s at off makes of a content, for off within it.
func over(content string, off int, s string) string {
	if off+len(s) >= len(content) {
		return content[:off] + s
	}
	return content[:off] + s + content[off+len(s):]
}

// written returns the past after a write of s at off.
func (p past) written(off int, s string) past {
	torn := []string{p.now()}
	for n := range len(s) {
		torn = append(torn, over(p.now(), off, s[:n+1]))
	}
	return p.after(over(p.now(), off, s), torn)
}

// survivors returns all contents that a crash may leave.
func (p past) survivors() map[string]bool {
	m := map[string]bool{}
	for i, s := range p.states {
		m[s] = true
		for _, torn := range p.torn[i] {
			m[torn] = true
		}
	}
	return m
}

// randomCall returns a call of an operation, often of a file that there is.
func randomCall(r *rand.Rand, d disk.Disk) call {
	names := []string{"a", "b", "c", "d.1"}
	c := call{kind: operations()[r.Intn(7)], name: names[r.Intn(4)], to: names[r.Intn(4)], b: random(r, r.Intn(6))}
	if r.Intn(2) == 0 {
		c.kind = []string{"Append", "Put", "Truncate"}[r.Intn(3)]
	}
	if n, e := disk.Size(d, c.name); e == api.OK {
		c.off = r.Int63n(n + 1)
	}
	return c
}

// follow returns the pasts of all files after a call that succeeded.
func follow(m map[string]past, c call) {
	p := m[c.name]
	switch c.kind {
	case "Create":
		m[c.name] = past{[]string{""}, [][]string{nil}}
	case "Append":
		m[c.name] = p.written(len(p.now()), string(c.b))
	case "Put":
		m[c.name] = p.written(int(c.off), string(c.b))
	case "Truncate":
		m[c.name] = p.after(p.now()[:c.off], nil)
	case "Sync":
		m[c.name] = past{[]string{p.now()}, [][]string{nil}}
	case "Rename":
		delete(m, c.name)
		m[c.to] = p
	case "Remove":
		delete(m, c.name)
	}
}

// checkPasts checks the names and the contents of all files.
func checkPasts(t *testing.T, d disk.Disk, m map[string]past) {
	t.Helper()
	if len(d.Files) != len(m) || !disk.Valid(d) {
		t.Fatalf("%d files, want %d: %s", len(d.Files), len(m), brief(d))
	}
	for _, name := range disk.Names(d) {
		p, ok := m[name]
		n, e := disk.Size(d, name)
		if b, err := disk.Read(d, name, 0, n); !ok || e != api.OK || err != api.OK || string(b) != p.now() {
			t.Fatalf("%s of %s has %q, want %q", name, brief(d), b, p.now())
		}
	}
}

// checkSurvivors lets the power fail in several ways.
func checkSurvivors(t *testing.T, r *rand.Rand, d disk.Disk, m map[string]past) {
	t.Helper()
	for range 3 {
		var l []disk.Keep
		for name, p := range m {
			if r.Intn(4) > 0 {
				l = append(l, disk.Keep{Name: name, Writes: r.Intn(len(p.states) + 1), Torn: r.Intn(7)})
			}
		}
		x := disk.Crash(d, l)
		if !slices.Equal(disk.Names(x), disk.Names(d)) {
			t.Fatalf("Crash of %s: %s", brief(d), brief(x))
		}
		for _, f := range x.Files {
			if !m[f.Name].survivors()[string(f.Base)] || len(f.Pend) != 0 {
				t.Fatalf("%s survives of %s with %v", briefFile(f), brief(d), l)
			}
		}
	}
}

func TestHistoriesOfFiles(t *testing.T) {
	r := rand.New(rand.NewSource(6))
	for range 300 {
		d := disk.New(0)
		m := map[string]past{}
		for range 40 {
			c := randomCall(r, d)
			x := do(d, c)
			check(t, d, c)
			if x.err != api.OK {
				continue
			}
			d = x.disk
			follow(m, c)
			checkPasts(t, d, m)
			checkSurvivors(t, r, d, m)
		}
	}
}

// Each torn write and each prefix of the writes does survive, and nothing else does.
func TestEverythingThatMaySurvive(t *testing.T) {
	r := rand.New(rand.NewSource(7))
	for range 200 {
		d := checkNext(t, disk.New(0), call{kind: "Create", name: "a"})
		m := map[string]past{}
		follow(m, call{kind: "Create", name: "a"})
		for range r.Intn(8) {
			c := randomCall(r, d)
			c.name, c.to, c.off = "a", "a", 0
			if n, _ := disk.Size(d, "a"); n > 0 {
				c.off = r.Int63n(n + 1)
			}
			if c.kind != "Create" && c.kind != "Remove" {
				d = checkNext(t, d, c)
				follow(m, c)
			}
		}
		found := map[string]bool{}
		for writes := range len(m["a"].states) + 1 {
			for torn := range 7 {
				x := disk.Crash(d, []disk.Keep{{Name: "a", Writes: writes, Torn: torn}})
				found[string(x.Files[0].Base)] = true
			}
		}
		if want := m["a"].survivors(); fmt.Sprint(found) != fmt.Sprint(want) {
			t.Errorf("of %s survive %v, want %v", brief(d), found, want)
		}
	}
}

func TestOperationsLeaveOtherFiles(t *testing.T) {
	d := with(three(), 100, -1)
	d.Files = append(d.Files, file("d", "more", cut(1), data(1, "any")))
	for _, c := range allCalls() {
		x := do(d, c)
		if x.err != api.OK || c.kind == "Read" || c.kind == "Size" {
			continue
		}
		for _, f := range d.Files {
			if f.Name == c.name || c.kind == "Rename" && f.Name == c.to {
				continue
			}
			if i := slices.IndexFunc(x.disk.Files, func(g disk.File) bool { return sameFile(f, g) }); i < 0 {
				t.Errorf("%s changed %s: %s", briefCall(c), briefFile(f), brief(x.disk))
			}
		}
	}
}

func TestWhatWasSyncedSurvives(t *testing.T) {
	for _, name := range []string{"a", "b", "c.1-x"} {
		d := checkNext(t, three(), call{kind: "Sync", name: name})
		n, _ := disk.Size(d, name)
		want, _ := disk.Read(d, name, 0, n)
		for _, other := range []string{"a", "b", "c.1-x"} {
			if other != name {
				d = checkNext(t, d, call{kind: "Append", name: other, b: []byte("x")})
			}
		}
		for _, l := range [][]disk.Keep{nil, {{Name: name, Writes: -1}}, {{Name: name, Writes: 3, Torn: 3}}} {
			x := disk.Crash(d, l)
			n, _ := disk.Size(x, name)
			if b, e := disk.Read(x, name, 0, n); e != api.OK || !bytes.Equal(b, want) {
				t.Errorf("%s survives as %q, want %q", name, b, want)
			}
		}
	}
}

// Created, renamed and removed files stay so without Sync.
func TestNamesAreDurable(t *testing.T) {
	d := checkNext(t, three(), call{kind: "Create", name: "0"})
	d = checkNext(t, d, call{kind: "Rename", name: "a", to: "z"})
	d = checkNext(t, d, call{kind: "Rename", name: "b", to: "c.1-x"})
	if x := checkCrash(t, d, nil); !same(x, store(file("0", ""), file("c.1-x", "world"), file("z", "hello"))) {
		t.Errorf("after renaming: %s", brief(x))
	}
	d = checkNext(t, d, call{kind: "Remove", name: "z"})
	if x := checkCrash(t, d, []disk.Keep{{Name: "z", Writes: 9}, {Name: "a", Writes: 9}}); !same(x, store(file("0", ""), file("c.1-x", "world"))) {
		t.Errorf("after removing: %s", brief(x))
	}
}

// The rules R3 and R4, and rule 7 of the language: memory.

// spoil changes all bytes of a disk.
func spoil(d disk.Disk) {
	for i := range d.Files {
		spoilBytes(d.Files[i].Base)
		for j := range d.Files[i].Pend {
			spoilBytes(d.Files[i].Pend[j].Data)
			d.Files[i].Pend[j].Off += 3
		}
		d.Files[i].Name += "x"
	}
}

func spoilBytes(b []byte) {
	b = b[:cap(b)]
	for i := range b {
		b[i] ^= 255
	}
}

func TestWhatIsWrittenIsCopied(t *testing.T) {
	b := []byte("some bytes")
	d := checkNext(t, three(), call{kind: "Append", name: "a", b: b[:4]})
	d = checkNext(t, d, call{kind: "Put", name: "b", off: 2, b: b[2:8]})
	d = checkNext(t, d, call{kind: "Append", name: "b", b: b[:4]})
	kept := clone(d)
	spoilBytes(b)
	if !same(d, kept) {
		t.Errorf("the disk became %s", brief(d))
	}
	spoilBytes(d.Files[1].Pend[0].Data)
	if string(d.Files[1].Pend[1].Data) != "some" {
		t.Errorf("two Writes share memory: %s", brief(d))
	}
}

func TestResultsHaveMemoryOfTheirOwn(t *testing.T) {
	d := three()
	kept := clone(d)
	for _, name := range []string{"a", "b"} {
		n, _ := disk.Size(d, name)
		for off := range n {
			b, _ := disk.Read(d, name, off, n-off)
			spoilBytes(b)
		}
	}
	for _, f := range d.Files {
		spoilBytes(disk.Content(f))
	}
	clear(disk.Names(d))
	for writes := range 6 {
		spoil(disk.Crash(d, []disk.Keep{{Name: "a", Writes: writes, Torn: 1}}))
	}
	for bit := range int64(40) {
		x, _ := disk.Flip(d, "b", bit)
		spoilBytes(x.Files[1].Base)
	}
	for _, name := range []string{"a", "b"} {
		x, _ := disk.Sync(d, name)
		spoilBytes(x.Files[slices.Index([]string{"a", "b"}, name)].Base)
	}
	if !same(d, kept) {
		t.Errorf("the disk became %s", brief(d))
	}
}

// Several next states of one disk do not disturb each other, whatever memory they share.
func TestNextStatesAreIndependent(t *testing.T) {
	r := rand.New(rand.NewSource(8))
	for range 300 {
		d := three()
		d.Files = slices.Grow(d.Files, 5)
		for i := range d.Files {
			d.Files[i].Pend = slices.Grow(d.Files[i].Pend, r.Intn(5))
		}
		var states, kept []disk.Disk
		for range 30 {
			states, kept = append(states, d), append(kept, clone(d))
			d = states[r.Intn(len(states))]
			c := randomCall(r, d)
			if x := do(d, c); x.err == api.OK {
				d = x.disk
			}
			if r.Intn(10) == 0 {
				d = disk.Crash(d, []disk.Keep{{Name: "a", Writes: 2, Torn: 2}})
			}
			if x, e := disk.Flip(d, "b", 3); e == api.OK && r.Intn(3) == 0 {
				d = x
			}
		}
		for i, x := range states {
			if !same(x, kept[i]) {
				t.Fatalf("%s became %s", brief(kept[i]), brief(x))
			}
		}
	}
}

func TestEmptyAndNilAreTheSame(t *testing.T) {
	d := disk.Disk{Left: -1, Files: []disk.File{{Name: "a", Base: []byte{}, Pend: []disk.Write{}}, {Name: "b", Pend: []disk.Write{{Data: []byte{}}, {Cut: true, Data: []byte{}}}}}}
	checkValid(t, "empty slices", d, true)
	checkNext(t, d, call{kind: "Append", name: "a", b: []byte{}})
	checkNext(t, d, call{kind: "Sync", name: "b"})
	checkCrash(t, d, []disk.Keep{{Name: "b", Writes: 1, Torn: 1}})
	checkError(t, d, call{kind: "Flip", name: "a"}, api.ErrRange)
	checkValid(t, "no files", disk.Disk{Files: []disk.File{}}, true)
}
