package generation_test

import (
	"fmt"
	"math"
	"math/rand"
	"slices"
	"strings"
	"testing"

	"needlestore/api"
	"needlestore/disk"
	"needlestore/generation"
	"needlestore/nmap"
	"needlestore/scan"
)

// The chapter's examples.

func TestExamples(t *testing.T) {
	if s, e := generation.Format(name{Kind: generation.Shard, Slot: 1, Gen: 2, Shard: 3, Temp: true}); s != "v.1.2.ec3.tmp" || e != api.OK {
		t.Errorf("Format: %q, %v", s, e)
	}
	if x, e := generation.Parse("v.01.2.dat"); x != (name{}) || e != api.ErrForm {
		t.Errorf("Parse: %v, %v", x, e)
	}
	h, e := generation.Freeze(gen{Num: 1, Mode: generation.Sealed, Size: 16})
	checkError(t, "Freeze of a Sealed generation", h, e, api.ErrState)
}

func TestConstants(t *testing.T) {
	if l := []int{generation.Dat, generation.Shadow, generation.Journal, generation.Index, generation.Shard}; !slices.Equal(l, []int{1, 2, 3, 4, 5}) {
		t.Errorf("kinds %v", l)
	}
	if l := []int{generation.Writable, generation.Frozen, generation.Sealed}; !slices.Equal(l, []int{1, 2, 3}) {
		t.Errorf("modes %v", l)
	}
}

// Promise 12.1: Format.

func checkFormat(t *testing.T, x name, want string, wantE api.Errno) {
	t.Helper()
	if s, e := generation.Format(x); s != want || e != wantE {
		t.Errorf("Format(%+v) = %q, %v, want %q, %v", x, s, e, want, wantE)
	}
}

func TestFormatByHand(t *testing.T) {
	for want, x := range map[string]name{
		"v.0.1.dat": {Kind: dat, Gen: 1}, "v.3.8.dat": {Kind: dat, Slot: 3, Gen: 8}, "v.2.7.shd": {Kind: shadow, Slot: 2, Gen: 7},
		"v.1.6.del": {Kind: journal, Slot: 1, Gen: 6}, "v.0.8.idx": {Kind: index, Gen: 8}, "v.0.8.idx.tmp": {Kind: index, Gen: 8, Temp: true},
		"v.3.1.ec0": {Kind: shard, Slot: 3, Gen: 1}, "v.3.1.ec5": {Kind: shard, Slot: 3, Gen: 1, Shard: 5}, "v.3.1.ec0.tmp": {Kind: shard, Slot: 3, Gen: 1, Temp: true},
		"v.2.4.ec5.tmp": {Kind: shard, Slot: 2, Gen: 4, Shard: 5, Temp: true},
	} {
		checkFormat(t, x, want, api.OK)
	}
}

func TestFormatOfAllNames(t *testing.T) {
	all := texts()
	if len(all) != slots*gens*(3+2+2*shards) {
		t.Fatalf("%d texts", len(all))
	}
	for s, x := range all {
		checkFormat(t, x, s, api.OK)
	}
}

// numbers calls f with all names whose numbers are near to their bounds.
func numbers(f func(x name)) {
	for kind := -2; kind <= 8; kind++ {
		for slot := -2; slot <= slots+2; slot++ {
			for num := -2; num <= gens+2; num++ {
				for i := -2; i <= shards+2; i++ {
					f(name{Kind: kind, Slot: slot, Gen: num, Shard: i})
					f(name{Kind: kind, Slot: slot, Gen: num, Shard: i, Temp: true})
				}
			}
		}
	}
}

// Names with numbers at their bounds and beyond them, of each kind and others,
// with Temp and without it.
func TestFormatOfNamesNearTheBounds(t *testing.T) {
	byName := map[name]string{}
	for s, x := range texts() {
		byName[x] = s
	}
	count := 0
	numbers(func(x name) {
		if !validName(x) {
			checkFormat(t, x, "", api.ErrArg)
			return
		}
		count++
		checkFormat(t, x, byName[x], api.OK)
	})
	if count != len(byName) {
		t.Errorf("%d valid names, want %d", count, len(byName))
	}
}

// farNumbers are far from all bounds; modulo 2^8, 2^16 or 2^32 most of them are near.
func farNumbers() []int {
	l := []int{math.MinInt, math.MinInt + 1, math.MaxInt, math.MaxInt - 1, -100, 100}
	for _, bits := range []int{8, 16, 31, 32, 62} {
		for d := range 6 {
			l = append(l, 1<<bits+d, -1<<bits+d)
		}
	}
	return l
}

func TestFormatOfNamesFarFromTheBounds(t *testing.T) {
	for kind := dat; kind <= shard; kind++ {
		for _, n := range farNumbers() {
			for _, temp := range []bool{false, true} {
				checkFormat(t, name{Kind: n, Slot: 1, Gen: 2, Temp: temp}, "", api.ErrArg)
				checkFormat(t, name{Kind: kind, Slot: n, Gen: 2, Temp: temp}, "", api.ErrArg)
				checkFormat(t, name{Kind: kind, Slot: 1, Gen: n, Temp: temp}, "", api.ErrArg)
				checkFormat(t, name{Kind: kind, Slot: 1, Gen: 2, Shard: n, Temp: temp}, "", api.ErrArg)
				checkFormat(t, name{Kind: n, Slot: n, Gen: n, Shard: n, Temp: temp}, "", api.ErrArg)
			}
		}
	}
}

// Promise 12.1: Parse.

// checkParse compares with the texts of all valid names.
func checkParse(t *testing.T, all map[string]name, s string) {
	t.Helper()
	want, ok := all[s]
	wantE := api.OK
	if !ok {
		wantE = api.ErrForm
	}
	if x, e := generation.Parse(s); x != want || e != wantE {
		t.Errorf("Parse(%q) = %+v, %v, want %+v, %v", s[:min(len(s), 60)], x, e, want, wantE)
	}
}

func TestParseOfAllTexts(t *testing.T) {
	for s, want := range texts() {
		x, e := generation.Parse(s)
		if x != want || e != api.OK {
			t.Errorf("Parse(%q) = %+v, %v", s, x, e)
		}
		checkFormat(t, x, s, api.OK)
	}
}

// What Format returns for any name is read back, or is no text of a name.
func TestParseOfFormat(t *testing.T) {
	numbers(func(x name) {
		s, e := generation.Format(x)
		y, f := generation.Parse(s)
		if e == api.OK && (y != x || f != api.OK) || e != api.OK && (y != (name{}) || f != api.ErrForm) {
			t.Errorf("Format(%+v) = %q, %v; Parse of it: %+v, %v", x, s, e, y, f)
		}
	})
}

func TestParseOfTextsByHand(t *testing.T) {
	for _, s := range []string{
		"", "v", ".", "..", "...", "....", "v...", "v.0.1", "v.0.1.", "v.0.dat", "v.1.dat", "0.1.dat", ".0.1.dat", "v0.1.dat", "v.01.dat",
		"v.00.1.dat", "v.0.01.dat", "v.03.1.dat", "v.3.08.dat", "v.0.1.ec00", "v.0.1.ec05", "v.0.1.ec05.tmp", "v.000000000000000000000000000000000001.1.dat",
		"v.+0.1.dat", "v.+1.1.dat", "v.0.+1.dat", "v.0.1.ec+1", "v.-0.1.dat", "v.-1.1.dat", "v.0.-1.dat", "v.0.1.ec-0", "v.0.1.ec-1",
		" v.0.1.dat", "v .0.1.dat", "v. 0.1.dat", "v.0 .1.dat", "v.0. 1.dat", "v.0.1 .dat", "v.0.1. dat", "v.0.1.dat ", "v.0.1.ec 1", "v.0.1.ec1 ", "v.0.1.ec1 .tmp", "v.0.1.ec1. tmp", "v.0.1.dat\n", "v.0.1.dat\x00", "\tv.0.1.dat",
		"v.0.1.1.dat", "v.0.0.1.dat", "v.v.0.1.dat", "v.0.1.dat.dat", "v.0.1.idx.dat", "v.0.1.dat.idx", "v.0.1.ec1.ec1", "v.0.1.ec1.2", "v.0.1..dat", "v..0.1.dat", "v.0..1.dat", "v.0.1.dat.", "v.0.1.idx.", "v.0.1.ec1.", "..0.1.dat",
		"v.0.1.da", "v.0.1.data", "v.0.1.dat0", "v.0.1.shd0", "v.0.1.del0", "v.0.1.idx0", "v.0.1.0", "v.0.1.0dat", "v.0.1.0ec", "v.0.1.e0", "v.0.1.c0", "v.0.1.ec", "v.0.1.ecc0", "v.0.1.ecx", "v.0.1.ec0x", "v.0.1.eco", "v.0.1.cpd", "v.0.1.v", "v.0.1.dab", "v.0.1.sha", "v.0.1.idc", "v.0.1.datidx", "v.0.1.ecdat",
		"v.0.1.DAT", "v.0.1.Dat", "v.0.1.SHD", "v.0.1.DEL", "v.0.1.IDX", "v.0.1.EC0", "v.0.1.Ec0", "V.0.1.dat", "v.0.1.idx.TMP", "v.0.1.idx.Tmp", "v.0.1.ec0.TMP",
		"v.4.1.dat", "v.5.1.dat", "v.10.1.dat", "v.0.0.dat", "v.0.9.dat", "v.0.10.dat", "v.0.18.dat", "v.0.1.ec6", "v.0.1.ec7", "v.0.1.ec10", "v.0.1.ec15", "v.256.1.dat", "v.0.257.dat", "v.0.1.ec256", "v.65536.1.dat",
		"v.4294967296.1.dat", "v.0.4294967297.dat", "v.0.1.ec4294967296", "v.18446744073709551616.1.dat", "v.0.18446744073709551617.dat", "v.0.1.ec18446744073709551616", "v.9223372036854775807.1.dat", "v.-9223372036854775808.1.dat",
		"v.0.1.dat.tmp", "v.0.1.shd.tmp", "v.0.1.del.tmp", "v.0.1.idx.tmp.tmp", "v.0.1.ec0.tmp.tmp", "v.0.1.dat.tmp.tmp", "v.0.1.tmp", "v.0.1.tmp.idx", "v.0.1.idxtmp", "v.0.1.idx..tmp", "v.0.1.idx.tm", "v.0.1.idx.tmpp", "v.0.1.ec0.tmp0", "v.0.1.ectmp0", "v.0.1.ec.tmp", "v.0.1.ec6.tmp", "v.4.1.idx.tmp", "v.0.9.idx.tmp", ".tmp", "tmp", ".tmp.tmp", "v.tmp",
		"v.0x1.1.dat", "v.0b1.1.dat", "v.1_.1.dat", "v.0_1.1.dat", "v.1e0.1.dat", "v.1,1.1.dat", "v.1.0.1.dat", "v.a.1.dat", "v.0.b.dat", "v.\u0661.1.dat", "v.0.\uff11.dat", "v.0.1.ec\u0661", "v,0,1,dat", "v/0/1/dat", "v.0.1\xffdat", "\xff\xfe", "v\u3002" + "0.1.dat",
	} {
		if x, e := generation.Parse(s); x != (name{}) || e != api.ErrForm {
			t.Errorf("Parse(%q) = %+v, %v", s, x, e)
		}
	}
}

// Every text that is a valid one with a byte fewer, a byte more or another byte,
// or with two of its bytes exchanged.
func TestParseOfTextsNearToValidOnes(t *testing.T) {
	all := texts()
	const some = "0123456789.vdatshelixcmpVDE+- _\x00\n\xff"
	for s := range all {
		for i := range len(s) + 1 {
			for _, b := range []byte(some) {
				checkParse(t, all, s[:i]+string([]byte{b})+s[i:])
				if i < len(s) {
					checkParse(t, all, s[:i]+string([]byte{b})+s[i+1:])
				}
			}
			for j := range i {
				checkParse(t, all, s[:j]+s[i:])
				if i < len(s) {
					b := []byte(s)
					b[i], b[j] = b[j], b[i]
					checkParse(t, all, string(b))
				}
			}
			checkParse(t, all, s[:i])
			checkParse(t, all, s[:i]+s)
			checkParse(t, all, s+s[i:])
		}
	}
}

// Every other value of each byte of some texts.
func TestParseOfTextsWithAnyByte(t *testing.T) {
	all := texts()
	for _, s := range []string{"v.0.1.dat", "v.3.8.shd", "v.1.2.del", "v.2.5.idx", "v.0.7.idx.tmp", "v.3.3.ec4", "v.1.2.ec3.tmp"} {
		for i := range s {
			for b := range 256 {
				checkParse(t, all, s[:i]+string([]byte{byte(b)})+s[i+1:])
				checkParse(t, all, s[:i]+string([]byte{byte(b)})+s[i:])
			}
		}
	}
}

// Each part of a text, written in every way of a list that has the right ones,
// beside every other part.
func TestParseOfPartsInEachCombination(t *testing.T) {
	all := texts()
	firsts := []string{"v", "V", "w", "", "vv", "0"}
	numbers := []string{"0", "1", "3", "4", "8", "9", "00", "01", "08", "+1", "-1", "-0", "", " 1", "1 ", "10", "4294967297", "18446744073709551617", "x"}
	endings := []string{"dat", "shd", "del", "idx", "ec", "ec0", "ec5", "ec6", "ec05", "ec-1", "ec+1", "dat0", "idx5", "DAT", "tmp", ""}
	behind := []string{"", ".tmp", ".tmp.tmp", ".TMP", ".", "tmp", ".dat", "0"}
	for _, a := range firsts {
		for _, b := range numbers {
			for _, c := range numbers {
				for _, d := range endings {
					for _, e := range behind {
						checkParse(t, all, a+"."+b+"."+c+"."+d+e)
					}
				}
			}
		}
	}
}

// All texts with at most six bytes of those that may follow the number of the slot.
func TestParseOfShortTexts(t *testing.T) {
	all := texts()
	const letters = "1.cetmp"
	var extend func(s string, n int)
	extend = func(s string, n int) {
		checkParse(t, all, s)
		checkParse(t, all, "v.0.1."+s)
		for i := range len(letters) {
			if n > 0 {
				extend(s+letters[i:i+1], n-1)
			}
		}
	}
	extend("", 6)
}

func TestParseOfLongTexts(t *testing.T) {
	all := texts()
	for _, n := range []int{20, 40, 41, 1000, 1 << 20} {
		for _, b := range []string{"0", "1", "9", ".", "v", "v.0.1.dat.", " ", "-", ".tmp", "\xff"} {
			long := strings.Repeat(b, n)
			for _, s := range []string{long, "v." + long + ".1.dat", "v." + long + "1.1.dat", "v.0." + long + ".dat", "v.0." + long + "1.dat", "v.0.1.ec" + long, "v.0.1.ec" + long + "1", "v.0.1.ec" + long + ".tmp", "v.0.1." + long, "v.0.1.dat" + long, "v.0.1.idx" + long + ".tmp", long + "v.0.1.dat", long + ".0.1.dat"} {
				checkParse(t, all, s)
			}
		}
	}
}

// Promise 12.1: File.

func checkFile(t *testing.T, kind, slot, num int, want string) {
	t.Helper()
	if s := generation.File(kind, slot, num); s != want {
		t.Errorf("File(%d, %d, %d) = %q, want %q", kind, slot, num, s, want)
	}
}

func TestFileByHand(t *testing.T) {
	checkFile(t, dat, 1, 2, "v.1.2.dat")
	checkFile(t, shadow, 0, 8, "v.0.8.shd")
	checkFile(t, journal, 3, 1, "v.3.1.del")
	checkFile(t, index, 2, 5, "v.2.5.idx")
	checkFile(t, shard, 2, 5, "v.2.5.ec0")
}

func TestFileNearTheBounds(t *testing.T) {
	byName := map[name]string{}
	for s, x := range texts() {
		byName[x] = s
	}
	for kind := -2; kind <= 8; kind++ {
		for slot := -2; slot <= slots+2; slot++ {
			for num := -2; num <= gens+2; num++ {
				checkFile(t, kind, slot, num, byName[name{Kind: kind, Slot: slot, Gen: num}])
			}
		}
	}
}

func TestFileFarFromTheBounds(t *testing.T) {
	for kind := dat; kind <= shard; kind++ {
		for _, n := range farNumbers() {
			checkFile(t, n, 1, 2, "")
			checkFile(t, kind, n, 2, "")
			checkFile(t, kind, 1, n, "")
			checkFile(t, n, n, n, "")
		}
	}
}

// Promise 12.2.

func TestValidGenerations(t *testing.T) {
	for _, g := range goodGens(rand.New(rand.NewSource(1))) {
		if !valid(g) {
			t.Fatalf("%v is not valid", brief(g))
		}
		checkValid(t, "a valid generation", g, true)
	}
}

func TestNumbersAtTheirBounds(t *testing.T) {
	for num := 1; num <= gens; num++ {
		for _, rev := range []int64{0, 1, 2, 1 << 31, maxRev - 1, maxRev} {
			for _, g := range inEachMode(of(16), of(maxFile), of(40, api.Item{Key: 1, Off: 16})) {
				g.Num, g.Rev = num, rev
				checkValid(t, "numbers at their bounds", g, true)
			}
		}
	}
}

func TestInvalidGenerations(t *testing.T) {
	for _, g := range badGens(t) {
		checkValid(t, "one condition broken", g, false)
	}
}

// Every size with the garbage that fits to it, with and without an item.
func TestValidOfEachSize(t *testing.T) {
	for size := int64(-40); size <= 400; size++ {
		checkValid(t, "no items", of(size), size >= 16 && size%8 == 0)
		checkValid(t, "one item", of(size, api.Item{Key: 1, Off: 24, Size: 7}), size >= 56 && size%8 == 0)
	}
	for size := int64(maxFile - 100); size <= maxFile+100; size++ {
		checkValid(t, "no items", of(size), size <= maxFile && size%8 == 0)
		checkValid(t, "one item", of(size, api.Item{Key: 1, Off: maxFile - 96, Size: 7}), size >= maxFile-64 && size <= maxFile && size%8 == 0)
	}
}

// An item of each size may end at Size, and not 8 bytes further.
func TestLastItemOfEachSize(t *testing.T) {
	for n := range maxPayload + 1 {
		for _, size := range []int64{length(n) + 24, maxFile} {
			off := size - length(n)
			checkValid(t, "at the end", of(size, api.Item{Key: 9, Off: off, Size: n}), true)
			checkValid(t, "behind the end", of(size, api.Item{Key: 9, Off: off + 8, Size: n}), false)
			checkValid(t, "before the end", of(size, api.Item{Key: 9, Off: off - 8, Size: n}), true)
		}
	}
}

// Two records beside each other, and with 8 bytes in common, in each order of the
// keys and of the stripes.
func TestTwoItemsOfEachSize(t *testing.T) {
	for _, keys := range [][2]uint64{{0, 5}, {5, 0}, {0, 1}, {1, 0}, {0, maxKey}, {maxKey, 0}} {
		for n := range 200 {
			for _, d := range []int64{-length(n), -8, 0, 8} {
				first := api.Item{Key: keys[0], Off: 16, Size: n}
				second := api.Item{Key: keys[1], Off: 16 + length(n) + d, Size: 3}
				checkValid(t, "two items", of(1000, first, second), d >= 0)
			}
		}
	}
}

// Each pair of items of a chain, also of those that do not follow one another in
// the file or among the keys: 8 bytes too few, none and 8 too many between them.
func TestPairsOfItems(t *testing.T) {
	r := rand.New(rand.NewSource(2))
	for range 300 {
		n := 2 + r.Intn(9)
		var keys []uint64
		for range n {
			keys = append(keys, r.Uint64()>>r.Intn(64))
		}
		slices.Sort(keys)
		keys = slices.Compact(keys)
		r.Shuffle(len(keys), func(i, j int) { keys[i], keys[j] = keys[j], keys[i] })
		l, end := laid(keys, []int{r.Intn(50), r.Intn(50), r.Intn(300)})
		checkValid(t, "a chain", of(end, l...), true)
		checkValid(t, "a chain that is too long", of(end-8, l...), false)
		for i := range l {
			for _, d := range []int64{-8, 8} {
				x := slices.Clone(l)
				x[i].Off = max(x[i].Off+d, superSize)
				g := of(end+8, x...)
				checkValid(t, "an item 8 bytes away", g, valid(g))
			}
			for j := range l {
				x := slices.Clone(l)
				x[i].Off = x[j].Off
				checkValid(t, "an item in the place of another one", of(end+1000, x...), i == j)
			}
		}
	}
}

func TestValidOfRandomGenerations(t *testing.T) {
	r := rand.New(rand.NewSource(3))
	accepted := 0
	for range 40000 {
		var l []api.Item
		for i := range r.Intn(6) {
			l = append(l, api.Item{Key: r.Uint64() >> r.Intn(64), Cookie: uint32(i), Off: 16 + 8*int64(r.Intn(40)), Size: r.Intn(30)})
		}
		g := of(16+8*int64(r.Intn(50)), l...)
		g.Num, g.Rev, g.Mode = r.Intn(10), r.Int63n(maxRev+1), 1+r.Intn(3)
		if v := valid(g); v {
			accepted++
		}
		checkValid(t, "a random generation", g, valid(g))
	}
	if accepted < 4000 || accepted > 36000 {
		t.Errorf("%d of 40000 are valid", accepted)
	}
}

// As many items as fit into a file.
func TestFullFile(t *testing.T) {
	const n = (maxFile - superSize) / 24
	var keys []uint64
	for i := range uint64(n) {
		keys = append(keys, i*0x10001)
	}
	l, end := laid(keys, []int{0})
	g := of(end, l...)
	if end != maxFile {
		t.Fatalf("end %d", end)
	}
	for _, g := range inEachMode(g) {
		checkValid(t, "a full file", g, true)
	}
	for _, i := range []int{0, 1, n / 2, n - 1} {
		for _, d := range []int64{-8, 8} {
			x := slices.Clone(l)
			x[i].Off = max(x[i].Off+d, superSize)
			checkValid(t, "an item away from its place", of(end, x...), x[i].Off == superSize && i == 0)
		}
		x := slices.Clone(l)
		x[i].Off = x[(i+1)%n].Off
		checkValid(t, "two items in one place", of(end, x...), false)
		checkValid(t, "one item less", of(end, slices.Delete(slices.Clone(l), i, i+1)...), true)
	}
}

func TestFresh(t *testing.T) {
	for num := -3; num <= 20; num++ {
		g, e := generation.Fresh(num)
		if num < 1 || num > gens {
			checkError(t, fmt.Sprintf("Fresh(%d)", num), g, e, api.ErrArg)
			continue
		}
		checkGen(t, fmt.Sprintf("Fresh(%d)", num), g, e, gen{Num: num, Mode: writable, Size: 16}, api.OK)
	}
	for _, num := range farNumbers() {
		g, e := generation.Fresh(num)
		checkError(t, fmt.Sprintf("Fresh(%d)", num), g, e, api.ErrArg)
	}
}

// Promise 12.3.

func TestAddByHand(t *testing.T) {
	g := gen{Num: 3, Rev: 4, Mode: writable, Size: 16}
	steps := []struct {
		l             []api.Needle
		size, garbage int64
		items         []api.Item
	}{
		{nil, 16, 0, nil},
		{[]api.Needle{put(5, 4)}, 48, 0, []api.Item{{Key: 5, Cookie: 29, Off: 16, Size: 4}}},
		{[]api.Needle{put(1, 5), put(9, 0)}, 104, 0, []api.Item{{Key: 1, Cookie: 36, Off: 48, Size: 5}, {Key: 5, Cookie: 29, Off: 16, Size: 4}, {Key: 9, Cookie: 1, Off: 80, Size: 0}}},
		{[]api.Needle{put(5, 9)}, 144, 32, []api.Item{{Key: 1, Cookie: 36, Off: 48, Size: 5}, {Key: 5, Cookie: 64, Off: 104, Size: 9}, {Key: 9, Cookie: 1, Off: 80, Size: 0}}},
		{[]api.Needle{tombstone(9)}, 168, 80, []api.Item{{Key: 1, Cookie: 36, Off: 48, Size: 5}, {Key: 5, Cookie: 64, Off: 104, Size: 9}}},
		{[]api.Needle{tombstone(9)}, 192, 104, []api.Item{{Key: 1, Cookie: 36, Off: 48, Size: 5}, {Key: 5, Cookie: 64, Off: 104, Size: 9}}},
		{[]api.Needle{put(7, 1), put(7, 2), tombstone(1), put(1, 3), tombstone(7)}, 336, 248, []api.Item{{Key: 1, Cookie: 22, Off: 280, Size: 3}, {Key: 5, Cookie: 64, Off: 104, Size: 9}}},
	}
	for i, x := range steps {
		h, e := generation.Add(g, x.l)
		want := of(x.size, x.items...)
		want.Num, want.Rev = 3, 4
		checkGen(t, fmt.Sprintf("step %d", i), h, e, want, api.OK)
		if h.Map.Garbage != x.garbage {
			t.Errorf("step %d: Garbage %d, want %d", i, h.Map.Garbage, x.garbage)
		}
		g = h
	}
}

func TestAddOfNoNeedle(t *testing.T) {
	for _, g := range goodGens(rand.New(rand.NewSource(4))) {
		for _, l := range [][]api.Needle{nil, {}} {
			h, e := generation.Add(g, l)
			if g.Mode == writable {
				checkGen(t, "no needle", h, e, g, api.OK)
			} else {
				checkError(t, "no needle", h, e, api.ErrState)
			}
		}
	}
}

func TestAddOfOneNeedle(t *testing.T) {
	for _, g := range goodGens(rand.New(rand.NewSource(5))) {
		for _, key := range []uint64{0, 1, 2, 3, 5, 77, maxKey} {
			for _, x := range []api.Needle{put(key, 0), put(key, 1), put(key, 40), put(key, maxPayload), {Key: key}, tombstone(key), {Key: key, Deleted: true}, {Key: key, Cookie: math.MaxUint32, Deleted: true, Data: []byte{}}} {
				checkAdd(t, "one needle", g, []api.Needle{x})
			}
		}
	}
}

// A needle of each size, in a new generation, behind others and in the place of
// one of another size.
func TestAddOfEachSize(t *testing.T) {
	empty := of(16)
	some := of(200, api.Item{Key: 9, Off: 16, Size: 33}, api.Item{Key: 4, Off: 96, Size: 5})
	for n := range maxPayload + 1 {
		x := put(9, n)
		h, e := generation.Add(empty, []api.Needle{x})
		checkGen(t, "one needle", h, e, of(16+length(n), api.Item{Key: 9, Cookie: x.Cookie, Off: 16, Size: n}), api.OK)
		checkAdd(t, "behind others", some, []api.Needle{x})
		checkAdd(t, "before others", some, []api.Needle{x, put(2, 3), tombstone(9), tombstone(4)})
	}
}

// sequences calls f with every sequence of at most n needles and tombstones of
// these keys. The needles are the same memory each time.
func sequences(keys []uint64, n int, f func([]api.Needle)) {
	l := make([]api.Needle, 0, n)
	var extend func()
	extend = func() {
		f(l)
		if len(l) == n {
			return
		}
		for _, key := range keys {
			for _, x := range []api.Needle{put(key, len(l)*3), tombstone(key)} {
				l = append(l, x)
				extend()
				l = l[:len(l)-1]
			}
		}
	}
	extend()
}

// Keys 0 and 5 have the same stripe.
func TestAddOfSequences(t *testing.T) {
	for _, g := range []gen{of(16), of(40), of(112, api.Item{Key: 5, Off: 40, Size: 20}), of(136, api.Item{Key: 0, Off: 72, Size: 20}, api.Item{Key: 5, Off: 16, Size: 9})} {
		sequences([]uint64{0, 1, 5}, 4, func(l []api.Needle) { checkAdd(t, "a sequence", g, l) })
	}
}

// One call gives the same as a call for each needle.
func TestAddOneByOne(t *testing.T) {
	r := rand.New(rand.NewSource(6))
	for range 300 {
		g := inMode(anyGen(r, r.Intn(8)), writable)
		l := anyNeedles(r, r.Intn(40), 10, 100)
		together, e := generation.Add(g, l)
		for i := range l {
			var f api.Errno
			g, f = generation.Add(g, l[i:i+1])
			if f != api.OK {
				t.Fatal(f)
			}
		}
		checkGen(t, "together", together, e, g, api.OK)
	}
}

// anyNeedles returns n valid needles and tombstones of the first keys, or of any
// keys if there are none.
func anyNeedles(r *rand.Rand, n, keys, size int) []api.Needle {
	var l []api.Needle
	for range n {
		key := r.Uint64()
		if keys > 0 {
			key %= uint64(keys)
		}
		x := api.Needle{Key: key, Cookie: r.Uint32(), Deleted: r.Intn(3) == 0}
		if !x.Deleted {
			x.Data = make([]byte, r.Intn(size+1))
			r.Read(x.Data)
		}
		l = append(l, x)
	}
	return l
}

func TestAddOfManyNeedles(t *testing.T) {
	r := rand.New(rand.NewSource(7))
	for _, g := range goodGens(r) {
		if g.Size > maxFile/2 {
			continue
		}
		checkAdd(t, "few keys", g, anyNeedles(r, 60, 7, 30))
		checkAdd(t, "many keys", g, anyNeedles(r, 60, 0, 200))
	}
}

func TestAddOfAnInvalidNeedleAtEachPlace(t *testing.T) {
	for _, g := range goodGens(rand.New(rand.NewSource(8))) {
		for n := range 4 {
			for i := range n + 1 {
				for _, bad := range badNeedles(uint64(i)) {
					l := []api.Needle{put(1, 3), tombstone(5), put(0, 0), put(1, 9)}[:n]
					h, e := generation.Add(g, slices.Insert(slices.Clone(l), i, bad))
					checkError(t, "a needle that is not valid", h, e, api.ErrArg)
				}
			}
		}
	}
}

// Needles whose records fill the file exactly, with 8 bytes to spare, or with 8
// bytes too many.
func TestAddUpToMaxFile(t *testing.T) {
	some := []api.Item{{Key: 5, Off: 16, Size: 100}, {Key: 1, Off: 200, Size: 3}}
	for _, l := range [][]api.Needle{nil, {put(5, 0)}, {tombstone(5)}, {tombstone(9)}, {put(5, 1)}, {put(5, 9), tombstone(5)}, {put(7, maxPayload)}, {put(7, 30), put(8, 5), tombstone(5), put(7, 7), put(1, 100)}} {
		var n int64
		for _, x := range l {
			n += length(len(x.Data))
		}
		for _, spare := range []int64{-n, -4120, -24, -16, -8, 0, 8, 16, 24, 4120} {
			g := of(maxFile-n-spare, some...)
			if g.Size > maxFile {
				continue
			}
			h, e := generation.Add(g, l)
			checkAdd(t, "about the end", g, l)
			if spare < 0 && n > 0 {
				checkError(t, "beyond the end", h, e, api.ErrFull)
			} else if e != api.OK || h.Size != maxFile-spare {
				t.Errorf("%s with %d bytes to spare: Size %d, %v", few(l), spare, h.Size, e)
			}
		}
	}
}

// A file that is filled by one call, with records of the least and of the greatest
// length, and one more.
func TestAddOfAWholeFile(t *testing.T) {
	var short, long []api.Needle
	for i := range uint64((maxFile - superSize) / 24) {
		short = append(short, api.Needle{Key: i / 2, Cookie: uint32(i), Deleted: i%7 == 0})
	}
	for i := range uint64(254) {
		long = append(long, put(i, maxPayload))
	}
	for _, l := range [][]api.Needle{short, append(long, put(1000, 2056))} {
		empty, _ := generation.Fresh(1)
		g, e := generation.Add(empty, l)
		if e != api.OK || g.Size != maxFile || !generation.Valid(g) {
			t.Fatalf("Size %d, %v", g.Size, e)
		}
		if h, e := generation.Add(g, nil); e != api.OK || !same(h, g) {
			t.Errorf("no needle into a full file: %v", e)
		}
		h, e := generation.Add(g, []api.Needle{tombstone(1)})
		checkError(t, "one more, later", h, e, api.ErrFull)
		h, e = generation.Add(empty, append(l, tombstone(1)))
		checkError(t, "one more", h, e, api.ErrFull)
	}
}

// Records of 2^32 + 864 bytes: a number of 32 bits would have only the 864.
func TestAddOfVeryManyBytes(t *testing.T) {
	l := slices.Repeat([]api.Needle{put(3, maxPayload)}, 1042468)
	if n := int64(len(l)) * 4120; n != 1<<32+864 {
		t.Fatal(n)
	}
	h, e := generation.Add(of(16), l)
	checkError(t, "very many bytes", h, e, api.ErrFull)
	h, e = generation.Add(of(16), l[:len(l)/2])
	checkError(t, "half of them", h, e, api.ErrFull)
	l[len(l)-1] = badNeedles(3)[0]
	h, e = generation.Add(of(16), l)
	checkError(t, "very many bytes, the last needle not valid", h, e, api.ErrArg)
}

// All that can be wrong, in each combination: the first that applies is returned.
func TestOrderOfErrorsOfAdd(t *testing.T) {
	for set := range 16 {
		g, l, want := of(16), []api.Needle{put(1, 3)}, api.OK
		if set&1 != 0 {
			g, want = of(maxFile), api.ErrFull
		}
		if set&2 != 0 {
			g, want = inMode(g, frozen+set%2), api.ErrState
		}
		if set&4 != 0 {
			l, want = append(l, badNeedles(2)[set%5]), api.ErrArg
		}
		if set&8 != 0 {
			g.Num, want = 9, api.ErrArg
		}
		h, e := generation.Add(g, l)
		if want == api.OK {
			checkGen(t, "nothing wrong", h, e, of(48, api.Item{Key: 1, Cookie: 22, Off: 16, Size: 3}), api.OK)
			continue
		}
		checkError(t, fmt.Sprintf("set %d", set), h, e, want)
	}
}

// Promise 12.4: Kill.

func TestKillByHand(t *testing.T) {
	l, end := laid([]uint64{5, 1, 9}, []int{4, 13, 0})
	for _, mode := range []int{frozen, sealed} {
		g := inMode(of(end+24, l...), mode)
		for _, x := range []struct {
			keys    []uint64
			garbage int64
			left    []api.Item
		}{
			{nil, 24, l}, {[]uint64{0, 2, 8, maxKey}, 24, l}, {[]uint64{5}, 56, l[1:]}, {[]uint64{5, 5, 5}, 56, l[1:]}, {[]uint64{9}, 48, l[:2]}, {[]uint64{0, 9, 7, 1, 9}, 88, l[:1]}, {[]uint64{9, 1, 5}, 120, nil},
		} {
			h, e := generation.Kill(g, x.keys)
			checkGen(t, fmt.Sprint("Kill of ", x.keys), h, e, inMode(of(end+24, x.left...), mode), api.OK)
			if h.Map.Garbage != x.garbage {
				t.Errorf("Kill of %v: Garbage %d, want %d", x.keys, h.Map.Garbage, x.garbage)
			}
		}
	}
}

// keysOf returns all keys of g, and one that it has not.
func keysOf(g gen) []uint64 {
	l := []uint64{1234567}
	for _, x := range nmap.Items(g.Map) {
		l = append(l, x.Key)
	}
	return l
}

func TestKill(t *testing.T) {
	r := rand.New(rand.NewSource(9))
	for _, g := range goodGens(r) {
		all := keysOf(g)
		checkKill(t, "no key", g, nil)
		checkKill(t, "no key", g, []uint64{})
		checkKill(t, "all keys", g, all)
		checkKill(t, "all keys twice", g, append(all, all...))
		for _, key := range append(all, 0, 2, maxKey-1) {
			checkKill(t, "one key", g, []uint64{key})
			checkKill(t, "one key twice", g, []uint64{key, key})
			checkKill(t, "one key between others", g, []uint64{3000, key, 3001, key})
		}
		for range 5 {
			r.Shuffle(len(all), func(i, j int) { all[i], all[j] = all[j], all[i] })
			checkKill(t, "some keys", g, all[:r.Intn(len(all)+1)])
		}
	}
}

// Keys that are killed one by one, and all at once.
func TestKillOneByOne(t *testing.T) {
	r := rand.New(rand.NewSource(10))
	for range 200 {
		g := inMode(anyGen(r, r.Intn(20)), frozen+r.Intn(2))
		var keys []uint64
		for range r.Intn(20) {
			keys = append(keys, uint64(r.Intn(20)))
		}
		together, e := generation.Kill(g, keys)
		for i := range keys {
			var f api.Errno
			g, f = generation.Kill(g, keys[i:i+1])
			if f != api.OK {
				t.Fatal(f)
			}
		}
		checkGen(t, "together", together, e, g, api.OK)
	}
}

func TestKillOfManyKeys(t *testing.T) {
	var keys []uint64
	for i := range uint64((maxFile - superSize) / 24) {
		keys = append(keys, i*3)
	}
	l, end := laid(keys, []int{0})
	g := inMode(of(end, l...), frozen)
	h, e := generation.Kill(g, keys[1:])
	checkGen(t, "all but one", h, e, inMode(of(end, l[0]), frozen), api.OK)
	for i := range keys {
		keys[i]++
	}
	h, e = generation.Kill(g, keys)
	checkGen(t, "keys beside them", h, e, g, api.OK)
}

// Promise 12.4: Freeze and Seal.

func TestFreezeAndSeal(t *testing.T) {
	for _, g := range goodGens(rand.New(rand.NewSource(11))) {
		checkModes(t, "a valid generation", g)
	}
	w := of(200, api.Item{Key: 9, Off: 16, Size: 33}, api.Item{Key: 4, Off: 96, Size: 5})
	f, e := generation.Freeze(w)
	checkGen(t, "Freeze", f, e, inMode(w, frozen), api.OK)
	s, e := generation.Seal(f)
	checkGen(t, "Seal", s, e, inMode(w, sealed), api.OK)
	for _, g := range []gen{f, s} {
		h, e := generation.Freeze(g)
		checkError(t, "Freeze once more", h, e, api.ErrState)
	}
	for _, g := range []gen{w, s} {
		h, e := generation.Seal(g)
		checkError(t, "Seal of another mode", h, e, api.ErrState)
	}
}

// Promise 12.5.

func TestSwapByHand(t *testing.T) {
	g := of(200, api.Item{Key: 9, Off: 16, Size: 33}, api.Item{Key: 4, Off: 96, Size: 5})
	l, end := laid([]uint64{4, 9}, []int{5, 33})
	want := of(end, l...)
	want.Rev = 8
	h, e := generation.Swap(g, 8, end, want.Map)
	checkGen(t, "the live records alone", h, e, want, api.OK)
	want = of(end+32, l...)
	want.Rev = 8
	h, e = generation.Swap(g, 8, end+32, want.Map)
	checkGen(t, "and others", h, e, want, api.OK)
	h, e = generation.Swap(g, 8, 16, nmap.Map{})
	checkGen(t, "no items", h, e, gen{Num: 2, Rev: 8, Mode: writable, Size: 16}, api.OK)
}

// Each generation with the size and the map of each other one.
func TestSwapOfMaps(t *testing.T) {
	r := rand.New(rand.NewSource(12))
	l := goodGens(r)
	bad := badGens(t)
	for _, g := range l {
		for range 10 {
			x, y := l[r.Intn(len(l))], bad[r.Intn(len(bad))]
			checkSwap(t, "a valid map", g, g.Rev+1, x.Size, x.Map)
			checkSwap(t, "any map", g, g.Rev+1, y.Size, y.Map)
			checkSwap(t, "another size", g, g.Rev+1, x.Size+8, x.Map)
		}
	}
}

// Only the next revision, and none behind the last one.
func TestSwapOfRevisions(t *testing.T) {
	for _, rev := range []int64{0, 1, 2, 7, 1<<31 - 1, 1 << 31, maxRev - 2, maxRev - 1} {
		g := of(64, api.Item{Key: 9, Off: 16, Size: 2})
		g.Rev = rev
		want := g
		want.Rev = rev + 1
		h, e := generation.Swap(g, rev+1, g.Size, g.Map)
		checkGen(t, "the next revision", h, e, want, api.OK)
		for _, d := range []int64{-1, 0, 2, 3, 1<<32 + 1, -1<<32 + 1, 1<<62 + 1, math.MinInt64} {
			h, e := generation.Swap(g, rev+d, g.Size, g.Map)
			checkError(t, "another revision", h, e, api.ErrState)
		}
		for _, n := range []int64{-1, -maxRev, math.MinInt64, math.MaxInt64} {
			h, e := generation.Swap(g, n, g.Size, g.Map)
			checkError(t, "a revision far away", h, e, api.ErrState)
		}
	}
	g := of(64, api.Item{Key: 9, Off: 16, Size: 2})
	g.Rev = maxRev
	h, e := generation.Swap(g, maxRev+1, g.Size, g.Map)
	checkError(t, "behind the last revision", h, e, api.ErrArg)
	h, e = generation.Swap(g, 0, g.Size, g.Map)
	checkError(t, "the first revision after the last one", h, e, api.ErrState)
	h, e = generation.Swap(g, maxRev, g.Size, g.Map)
	checkError(t, "the last revision once more", h, e, api.ErrState)
}

// The size and the map of a generation that breaks a condition.
func TestSwapToAnInvalidGeneration(t *testing.T) {
	g := of(200, api.Item{Key: 9, Off: 16, Size: 33}, api.Item{Key: 4, Off: 96, Size: 5})
	refused := 0
	for _, bad := range badGens(t) {
		x := g
		x.Size, x.Map = bad.Size, bad.Map
		if valid(x) {
			continue
		}
		refused++
		h, e := generation.Swap(g, g.Rev+1, bad.Size, bad.Map)
		checkError(t, "a result that is not valid", h, e, api.ErrArg)
		h, e = generation.Swap(g, g.Rev, bad.Size, bad.Map)
		checkError(t, "and another revision", h, e, api.ErrState)
		h, e = generation.Swap(inMode(g, frozen), g.Rev+1, bad.Size, bad.Map)
		checkError(t, "and another mode", h, e, api.ErrState)
	}
	if refused < 300 {
		t.Errorf("only %d", refused)
	}
}

// All that can be wrong, in each combination.
func TestOrderOfErrorsOfSwap(t *testing.T) {
	for set := range 16 {
		g, rev, size, want := of(64, api.Item{Key: 9, Off: 16, Size: 2}), int64(8), int64(48), api.OK
		m := of(48, api.Item{Key: 9, Off: 16, Size: 2}).Map
		if set&1 != 0 {
			size, want = 56, api.ErrArg
		}
		if set&2 != 0 {
			rev, want = 9, api.ErrState
		}
		if set&4 != 0 {
			g.Mode, want = frozen+set%2, api.ErrState
		}
		if set&8 != 0 {
			g.Size, want = g.Size+8, api.ErrArg
		}
		h, e := generation.Swap(g, rev, size, m)
		if want == api.OK {
			x := of(48, api.Item{Key: 9, Off: 16, Size: 2})
			x.Rev = 8
			checkGen(t, "nothing wrong", h, e, x, api.OK)
			continue
		}
		checkError(t, fmt.Sprintf("set %d", set), h, e, want)
	}
}

// Each call with generations that are not valid.
func TestCallsWithInvalidGenerations(t *testing.T) {
	m := of(16).Map
	for _, g := range badGens(t) {
		for i, f := range []func() (gen, api.Errno){
			func() (gen, api.Errno) { return generation.Add(g, nil) },
			func() (gen, api.Errno) { return generation.Add(g, []api.Needle{put(1, 3)}) },
			func() (gen, api.Errno) { return generation.Add(g, badNeedles(1)) },
			func() (gen, api.Errno) { return generation.Kill(g, nil) },
			func() (gen, api.Errno) { return generation.Kill(g, []uint64{5, 3}) },
			func() (gen, api.Errno) { return generation.Freeze(g) },
			func() (gen, api.Errno) { return generation.Seal(g) },
			func() (gen, api.Errno) { return generation.Swap(g, g.Rev+1, 16, m) },
			func() (gen, api.Errno) { return generation.Swap(g, 7, 16, m) },
			func() (gen, api.Errno) { return generation.Swap(g, g.Rev+1, g.Size, g.Map) },
		} {
			h, e := f()
			checkError(t, fmt.Sprintf("call %d with a generation that is not valid", i), h, e, api.ErrArg)
		}
	}
}

// Promise 12.6.

// The texts of all files are different, and a disk takes them.
func TestEveryFileHasANameOfItsOwn(t *testing.T) {
	seen := map[string]name{}
	numbers(func(x name) {
		s, e := generation.Format(x)
		if e != api.OK {
			return
		}
		if y, ok := seen[s]; ok {
			t.Errorf("%+v and %+v have the text %q", x, y, s)
		}
		if !disk.ValidName(s) {
			t.Errorf("%q is no name of a file", s)
		}
		seen[s] = x
	})
	if len(seen) != len(texts()) {
		t.Errorf("%d texts", len(seen))
	}
}

// checkScan compares a generation with a scan of its file, where some keys have
// been killed.
func checkScan(t *testing.T, g gen, file []byte, killed map[uint64]bool) {
	t.Helper()
	s, l, end, e := scan.Open(file)
	if e != api.OK || s.Gen != g.Num || s.Rev != g.Rev || end != g.Size || end != int64(len(file)) {
		t.Fatalf("%v: a scan ends with %v at %d of %d bytes, %v", brief(g), s, end, len(file), e)
	}
	items := slices.DeleteFunc(scan.Items(l), func(x api.Item) bool { return killed[x.Key] })
	live, garbage := scan.Bytes(l)
	if len(killed) > 0 {
		live, garbage = 0, live+garbage
		for _, x := range items {
			live, garbage = live+length(x.Size), garbage-length(x.Size)
		}
	}
	if !slices.Equal(nmap.Items(g.Map), items) || g.Map.Live != live || g.Map.Garbage != garbage {
		t.Errorf("%v: a scan has %v, %d live and %d other bytes", brief(g), items[:min(len(items), 12)], live, garbage)
	}
	checkValid(t, "beside its file", g, true)
}

// compacted returns g after a vacuum that copies its live records, and its new file.
func compacted(t *testing.T, g gen, file []byte) (gen, []byte) {
	t.Helper()
	_, records, _, _ := scan.Open(file)
	var l []api.Needle
	for _, x := range records {
		if y, ok := nmap.Get(g.Map, x.Needle.Key); ok && y.Off == x.Off {
			l = append(l, x.Needle)
		}
	}
	fresh, e := generation.Fresh(g.Num)
	fresh.Rev = g.Rev + 1
	fresh, f := generation.Add(fresh, l)
	next, h := generation.Swap(g, fresh.Rev, fresh.Size, fresh.Map)
	if e != api.OK || f != api.OK || h != api.OK || next.Map.Garbage != 0 {
		t.Fatalf("%v, %v, %v, Garbage %d", e, f, h, next.Map.Garbage)
	}
	return next, appended(t, begin(t, g.Num, fresh.Rev), l)
}

// checkHistory adds n random batches of needles to a new generation and their
// records to a file, with vacuums between them; then it freezes and seals it, and
// kills keys in both modes.
func checkHistory(t *testing.T, r *rand.Rand, n, keys, size int) {
	t.Helper()
	num := 1 + r.Intn(gens)
	g, e := generation.Fresh(num)
	file := begin(t, num, 0)
	for range n {
		if r.Intn(12) == 0 {
			g, file = compacted(t, g, file)
			checkScan(t, g, file, nil)
		}
		l := anyNeedles(r, r.Intn(6), keys, size)
		g, e = generation.Add(g, l)
		if e != api.OK {
			t.Fatal(e)
		}
		file = appended(t, file, l)
		checkScan(t, g, file, nil)
	}
	killed := map[uint64]bool{}
	for _, turn := range []func(gen) (gen, api.Errno){generation.Freeze, generation.Seal} {
		g, e = turn(g)
		checkScan(t, g, file, killed)
		for range 10 {
			all := keysOf(g)
			gone := []uint64{all[r.Intn(len(all))], all[0], uint64(r.Intn(keys + 1))}[:r.Intn(4)]
			g, e = generation.Kill(g, gone)
			if e != api.OK {
				t.Fatal(e)
			}
			for _, key := range gone {
				killed[key] = true
			}
			checkScan(t, g, file, killed)
		}
	}
}

func TestHistories(t *testing.T) {
	r := rand.New(rand.NewSource(13))
	for range 30 {
		checkHistory(t, r, 60, 1+r.Intn(30), 40)
		checkHistory(t, r, 60, 1+r.Intn(8), 300)
	}
	checkHistory(t, r, 300, 0, 100)
	checkHistory(t, r, 60, 20, maxPayload)
}

// Rules R2 to R4.

// guarded returns g with other items before and behind each stripe in the same
// memory, and a function that reports whether this memory is still the same.
func guarded(g gen) (gen, func() bool) {
	var memory, kept [stripes][]api.Item
	for s, l := range g.Map.Stripes {
		memory[s] = slices.Concat([]api.Item{{Key: 4, Off: 80}}, l, []api.Item{{Key: 6, Off: 16}, {Key: 7, Off: 24}})
		kept[s] = slices.Clone(memory[s])
		g.Map.Stripes[s] = memory[s][1 : 1+len(l)]
	}
	return g, func() bool {
		for s := range stripes {
			if !slices.Equal(memory[s], kept[s]) {
				return false
			}
		}
		return true
	}
}

// changes returns what all functions make of a generation.
func changes(g gen) []gen {
	var l []gen
	take := func(h gen, e api.Errno) {
		if e == api.OK {
			l = append(l, h)
		}
	}
	take(generation.Add(g, nil))
	take(generation.Add(g, []api.Needle{put(5, 3), tombstone(1), put(1000, 0), tombstone(0)}))
	take(generation.Kill(g, nil))
	take(generation.Kill(g, []uint64{5, 1000, 1}))
	take(generation.Freeze(g))
	take(generation.Seal(g))
	take(generation.Swap(g, g.Rev+1, g.Size, g.Map))
	return l
}

func TestGenerationsStay(t *testing.T) {
	broken := badGens(t)
	for _, g := range append(goodGens(rand.New(rand.NewSource(14))), broken[:200]...) {
		x, unchanged := guarded(g)
		generation.Valid(x)
		for _, h := range changes(x) {
			for _, i := range changes(h) {
				changes(i)
			}
		}
		if !unchanged() || !same(x, g) {
			t.Errorf("%v became %v", brief(g), brief(x))
		}
	}
}

// Each of the generations that were returned on the way is still what it was.
func TestEarlierGenerationsStay(t *testing.T) {
	r := rand.New(rand.NewSource(15))
	first, _ := generation.Fresh(1)
	l, kept := []gen{first}, []gen{first}
	for range 300 {
		for _, g := range changes(l[r.Intn(len(l))]) {
			h, e := generation.Add(g, anyNeedles(r, 3, 12, 60))
			if e == api.OK {
				g = h
			}
			l, kept = append(l, g), append(kept, copied(g))
		}
	}
	for i, g := range l {
		if !same(g, kept[i]) {
			t.Errorf("%v became %v", brief(kept[i]), brief(g))
		}
	}
}

// The needles and the keys stay, and no later change of them changes a result.
func TestNeedlesAndKeysStay(t *testing.T) {
	l := []api.Needle{put(5, 3), tombstone(5), put(9, 0), put(5, 8), put(9, 20), tombstone(1), put(0, 1)}
	memory, kept := slices.Clone(l), slices.Clone(l)
	for i := range memory {
		memory[i].Data, kept[i].Data = slices.Clone(l[i].Data), slices.Clone(l[i].Data)
	}
	g := of(64, api.Item{Key: 5, Off: 16, Size: 20})
	h, _ := generation.Add(g, memory[1:6])
	want, _ := add(g, l[1:6])
	equal := func(x, y api.Needle) bool {
		return x.Key == y.Key && x.Cookie == y.Cookie && x.Deleted == y.Deleted && slices.Equal(x.Data, y.Data)
	}
	if !slices.EqualFunc(memory, kept, equal) {
		t.Errorf("%v became %v", kept, memory)
	}
	for i := range memory {
		clear(memory[i].Data)
	}
	clear(memory)
	checkGen(t, "Add, after a change of the needles", h, api.OK, want, api.OK)

	keys := []uint64{9, 5, 5, 0, 3, 9, 2}
	h, _ = generation.Kill(inMode(want, frozen), keys[1:5])
	want, _ = kill(inMode(want, frozen), []uint64{5, 5, 0, 3})
	if !slices.Equal(keys, []uint64{9, 5, 5, 0, 3, 9, 2}) {
		t.Errorf("the keys became %v", keys)
	}
	clear(keys)
	checkGen(t, "Kill, after a change of the keys", h, api.OK, want, api.OK)
}

// What Add and Kill return is new memory, up to the capacity of each stripe.
func TestAddAndKillGiveNewMemory(t *testing.T) {
	var keys []uint64
	for key := range uint64(40) {
		keys = append(keys, key)
	}
	items, end := laid(keys, []int{3, 50, 0})
	g := of(end, items...)
	f := inMode(g, frozen)
	before := copied(g)
	for _, change := range []func() (gen, api.Errno){
		func() (gen, api.Errno) { return generation.Add(g, nil) },
		func() (gen, api.Errno) { return generation.Add(g, []api.Needle{put(7, 5), tombstone(8), put(99, 1)}) },
		func() (gen, api.Errno) { return generation.Kill(f, nil) },
		func() (gen, api.Errno) { return generation.Kill(f, []uint64{3, 7, 99}) },
	} {
		for s := range stripes {
			x, e := change()
			want, y := copied(x), x
			if e != api.OK {
				t.Fatal(e)
			}
			clear(x.Map.Stripes[s][:cap(x.Map.Stripes[s])])
			y.Map.Stripes[s] = want.Map.Stripes[s]
			checkGen(t, "the other stripes", y, e, want, api.OK)
			if !same(g, before) {
				t.Fatalf("%v became %v", brief(before), brief(g))
			}
			x, e = change()
			checkGen(t, "the same result again", x, e, want, api.OK)
		}
	}
}

func TestEmptyAndNilStripesAreTheSame(t *testing.T) {
	for _, g := range goodGens(rand.New(rand.NewSource(16))) {
		empty := g
		for s, l := range g.Map.Stripes {
			if len(l) == 0 {
				empty.Map.Stripes[s] = make([]api.Item, 0, 4)
			}
		}
		checkValid(t, "empty stripes", empty, true)
		checkModes(t, "empty stripes", empty)
		checkAdd(t, "empty stripes", empty, []api.Needle{put(5, 1), tombstone(1)})
		checkKill(t, "empty stripes", empty, []uint64{5, 2})
		checkSwap(t, "empty stripes", g, g.Rev+1, empty.Size, empty.Map)
	}
}

func TestCallsLeaveNoTrace(t *testing.T) {
	all := texts()
	good, bad := of(200, api.Item{Key: 9, Off: 16, Size: 33}, api.Item{Key: 4, Off: 96, Size: 5}), of(200, api.Item{Key: 9, Off: 16, Size: 33}, api.Item{Key: 4, Off: 64, Size: 5})
	for range 3 {
		for _, s := range append(sortedTexts()[:20], "", "v.0.1", "v.0.1.ec6") {
			checkParse(t, all, s)
		}
		checkFormat(t, name{Kind: index, Slot: 1, Gen: 2, Temp: true}, "v.1.2.idx.tmp", api.OK)
		checkFormat(t, name{Kind: dat, Slot: 1, Gen: 2, Temp: true}, "", api.ErrArg)
		for _, g := range inEachMode(good, bad) {
			checkValid(t, "again", g, valid(g))
			checkModes(t, "again", g)
			checkAdd(t, "again", g, []api.Needle{put(9, 4), tombstone(4)})
			checkKill(t, "again", g, []uint64{4})
			checkSwap(t, "again", g, 8, 16, nmap.Map{})
		}
	}
}
