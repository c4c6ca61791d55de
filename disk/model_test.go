package disk_test

import (
	"bytes"
	"fmt"
	"maps"
	"slices"
	"strings"
	"testing"

	"needlestore/api"
	"needlestore/disk"
)

// The numbers are written out, so that changed constants are noticed.
const (
	maxName  = 40
	maxFiles = 256
	maxFile  = 1048576
)

// call is a call of one of the functions with errors.
type call struct {
	kind, name, to string
	off, n         int64
	b              []byte
}

// result is what such a function returns.
type result struct {
	disk  disk.Disk
	size  int64
	bytes []byte
	err   api.Errno
}

// operations are those of 10.3, and kinds are all the functions with errors.
func operations() []string {
	return []string{"Create", "Append", "Put", "Truncate", "Sync", "Rename", "Remove"}
}

func kinds() []string { return append(operations(), "Size", "Read", "Flip") }

func do(d disk.Disk, c call) (x result) {
	switch c.kind {
	case "Size":
		x.size, x.err = disk.Size(d, c.name)
	case "Read":
		x.bytes, x.err = disk.Read(d, c.name, c.off, c.n)
	case "Create":
		x.disk, x.err = disk.Create(d, c.name)
	case "Append":
		x.disk, x.err = disk.Append(d, c.name, c.b)
	case "Put":
		x.disk, x.err = disk.Put(d, c.name, c.off, c.b)
	case "Truncate":
		x.disk, x.err = disk.Truncate(d, c.name, c.off)
	case "Sync":
		x.disk, x.err = disk.Sync(d, c.name)
	case "Rename":
		x.disk, x.err = disk.Rename(d, c.name, c.to)
	case "Remove":
		x.disk, x.err = disk.Remove(d, c.name)
	case "Flip":
		x.disk, x.err = disk.Flip(d, c.name, c.off)
	}
	return x
}

// apply is what 10.1 says of one Write.
func apply(b []byte, w disk.Write) []byte {
	if w.Cut {
		return bytes.Clone(b[:min(int64(len(b)), w.Off)])
	}
	x := make([]byte, max(int64(len(b)), w.Off+int64(len(w.Data))))
	copy(x, b)
	copy(x[w.Off:], w.Data)
	return x
}

// sound is what 10.1 says of Base and Pend.
func sound(f disk.File) bool {
	if len(f.Base) > maxFile {
		return false
	}
	b := f.Base
	for _, w := range f.Pend {
		if w.Off < 0 || w.Off > maxFile || w.Cut && len(w.Data) > 0 {
			return false
		}
		b = apply(b, w)
		if len(b) > maxFile {
			return false
		}
	}
	return true
}

// content is 10.1.
func content(f disk.File) []byte {
	if !sound(f) {
		return nil
	}
	b := bytes.Clone(f.Base)
	for _, w := range f.Pend {
		b = apply(b, w)
	}
	return b
}

// validName and valid are 10.1.
func validName(s string) bool {
	return len(s) >= 1 && len(s) <= maxName && !strings.ContainsFunc(s, func(r rune) bool {
		return !strings.ContainsRune("abcdefghijklmnopqrstuvwxyz0123456789.-", r)
	})
}

func valid(d disk.Disk) bool {
	if d.Cap < 0 || d.Left < -1 || len(d.Files) > maxFiles {
		return false
	}
	for i, f := range d.Files {
		if !validName(f.Name) || !sound(f) || i > 0 && f.Name <= d.Files[i-1].Name {
			return false
		}
	}
	return true
}

func total(d disk.Disk) (n int64) {
	for _, f := range d.Files {
		n += int64(len(content(f)))
	}
	return n
}

// full is what 10.3 says of ErrFull of Append and Put.
func full(d disk.Disk, size, off int64, b []byte) bool {
	n := max(size, off+int64(len(b)))
	return n > maxFile || d.Cap != 0 && n > size && total(d)+n-size > d.Cap
}

// faults returns all errors that apply to a call, in the order of 10.2, 10.3 and 10.5.
func faults(d disk.Disk, c call) (l []api.Errno) {
	add := func(e api.Errno, applies bool) {
		if applies {
			l = append(l, e)
		}
	}
	add(api.ErrArg, !valid(d) || !validName(c.name) || c.kind == "Rename" && !validName(c.to))
	add(api.ErrDown, c.kind != "Flip" && d.Left == 0)
	i := slices.IndexFunc(d.Files, func(f disk.File) bool { return f.Name == c.name })
	add(api.ErrNone, c.kind != "Create" && i < 0)
	var f disk.File
	if i >= 0 {
		f = d.Files[i]
	}
	size := int64(len(content(f)))
	switch c.kind {
	case "Read":
		add(api.ErrRange, c.off < 0 || c.n < 0 || uint64(c.off)+uint64(c.n) > uint64(size))
	case "Create":
		add(api.ErrExists, i >= 0)
		add(api.ErrFull, len(d.Files) >= maxFiles)
	case "Append":
		add(api.ErrFull, full(d, size, size, c.b))
	case "Put":
		add(api.ErrRange, c.off < 0 || c.off > size)
		add(api.ErrFull, c.off < 1<<60 && full(d, size, c.off, c.b))
	case "Truncate":
		add(api.ErrRange, c.off < 0 || c.off > size)
	case "Flip":
		add(api.ErrState, len(f.Pend) > 0)
		add(api.ErrRange, c.off < 0 || c.off > 8*int64(len(f.Base))-1)
	}
	return l
}

// after is what 10.3 and 10.5 say of a call that succeeds, on a plain map of the files.
func after(d disk.Disk, c call) disk.Disk {
	m := map[string]disk.File{}
	for _, f := range d.Files {
		m[f.Name] = f
	}
	f := m[c.name]
	size := int64(len(content(f)))
	pend := func(w disk.Write) {
		m[c.name] = disk.File{Name: c.name, Base: f.Base, Pend: append(slices.Clone(f.Pend), w)}
	}
	switch c.kind {
	case "Create":
		m[c.name] = disk.File{Name: c.name}
	case "Append":
		pend(disk.Write{Off: size, Data: bytes.Clone(c.b)})
	case "Put":
		pend(disk.Write{Off: c.off, Data: bytes.Clone(c.b)})
	case "Truncate":
		pend(disk.Write{Off: c.off, Cut: true})
	case "Sync":
		m[c.name] = disk.File{Name: c.name, Base: content(f)}
	case "Rename":
		delete(m, c.name)
		m[c.to] = disk.File{Name: c.to, Base: f.Base, Pend: f.Pend}
	case "Remove":
		delete(m, c.name)
	case "Flip":
		b := bytes.Clone(f.Base)
		b[c.off/8] ^= []byte{1, 2, 4, 8, 16, 32, 64, 128}[c.off%8]
		m[c.name] = disk.File{Name: c.name, Base: b}
	}
	x := disk.Disk{Cap: d.Cap, Left: d.Left}
	if d.Left > 0 && c.kind != "Flip" {
		x.Left = d.Left - 1
	}
	for _, name := range slices.Sorted(maps.Keys(m)) {
		x.Files = append(x.Files, m[name])
	}
	return x
}

// expected is 10.2, 10.3 and 10.5 word for word.
func expected(d disk.Disk, c call) result {
	if l := faults(d, c); len(l) > 0 {
		return result{err: l[0]}
	}
	var f disk.File
	for _, x := range d.Files {
		if x.Name == c.name {
			f = x
		}
	}
	switch c.kind {
	case "Size":
		return result{size: int64(len(content(f)))}
	case "Read":
		return result{bytes: content(f)[c.off : c.off+c.n]}
	}
	return result{disk: after(d, c)}
}

// limited returns n, or the nearest number from 0 to most.
func limited(n, most int) int {
	if n < 0 {
		return 0
	}
	if n > most {
		return most
	}
	return n
}

// crashed is 10.4 word for word.
func crashed(d disk.Disk, l []disk.Keep) disk.Disk {
	if !valid(d) {
		return disk.Disk{}
	}
	x := disk.Disk{Cap: d.Cap, Left: -1}
	for _, f := range d.Files {
		var k disk.Keep
		for _, y := range slices.Backward(l) {
			if y.Name == f.Name {
				k = y
			}
		}
		n := limited(k.Writes, len(f.Pend))
		b := content(disk.File{Base: f.Base, Pend: f.Pend[:n]})
		if n < len(f.Pend) && !f.Pend[n].Cut {
			torn := disk.Write{Off: f.Pend[n].Off, Data: f.Pend[n].Data[:limited(k.Torn, len(f.Pend[n].Data))]}
			if len(torn.Data) > 0 {
				b = apply(b, torn)
			}
		}
		x.Files = append(x.Files, disk.File{Name: f.Name, Base: b})
	}
	return x
}

func cloneFile(f disk.File) disk.File {
	f.Base, f.Pend = bytes.Clone(f.Base), slices.Clone(f.Pend)
	for i := range f.Pend {
		f.Pend[i].Data = bytes.Clone(f.Pend[i].Data)
	}
	return f
}

func clone(d disk.Disk) disk.Disk {
	d.Files = slices.Clone(d.Files)
	for i, f := range d.Files {
		d.Files[i] = cloneFile(f)
	}
	return d
}

func sameWrite(a, b disk.Write) bool {
	return a.Off == b.Off && a.Cut == b.Cut && bytes.Equal(a.Data, b.Data)
}

func sameFile(a, b disk.File) bool {
	return a.Name == b.Name && bytes.Equal(a.Base, b.Base) && slices.EqualFunc(a.Pend, b.Pend, sameWrite)
}

func same(a, b disk.Disk) bool {
	return a.Cap == b.Cap && a.Left == b.Left && slices.EqualFunc(a.Files, b.Files, sameFile)
}

func sameResult(a, b result) bool {
	return same(a.disk, b.disk) && a.size == b.size && bytes.Equal(a.bytes, b.bytes) && a.err == b.err
}

// briefBytes, briefFile, brief and briefCall return what the errors of the tests say of bytes, files, disks and calls.
func briefBytes(b []byte) string {
	if len(b) > 20 {
		return fmt.Sprintf("%q.. (%d bytes)", b[:20], len(b))
	}
	return fmt.Sprintf("%q", b)
}

func briefFile(f disk.File) string {
	s := fmt.Sprintf("%q: %s", f.Name, briefBytes(f.Base))
	for _, w := range f.Pend[:min(len(f.Pend), 10)] {
		s += fmt.Sprintf(" + %d %s %v", w.Off, briefBytes(w.Data), w.Cut)
	}
	return s
}

func brief(d disk.Disk) string {
	s := fmt.Sprintf("Cap %d, Left %d, %d files", d.Cap, d.Left, len(d.Files))
	for _, f := range d.Files[:min(len(d.Files), 10)] {
		s += "; " + briefFile(f)
	}
	return s
}

func briefCall(c call) string {
	return fmt.Sprintf("%s %q %q %d %d %s", c.kind, c.name, c.to, c.off, c.n, briefBytes(c.b))
}

// check does a call, checks its results and its arguments, and returns the next disk.
func check(t *testing.T, d disk.Disk, c call) disk.Disk {
	t.Helper()
	kept, b := clone(d), bytes.Clone(c.b)
	x, want := do(d, c), expected(d, c)
	if !sameResult(x, want) {
		t.Errorf("%s of %s\n= %s, %d, %s, error %d\nwant %s, %d, %s, error %d", briefCall(c), brief(kept),
			brief(x.disk), x.size, briefBytes(x.bytes), x.err, brief(want.disk), want.size, briefBytes(want.bytes), want.err)
	}
	if !same(d, kept) || !bytes.Equal(c.b, b) {
		t.Errorf("%s changed its arguments: %s became %s", briefCall(c), brief(kept), brief(d))
	}
	return x.disk
}

// checkError is check for a call with this error.
func checkError(t *testing.T, d disk.Disk, c call, e api.Errno) {
	t.Helper()
	check(t, d, c)
	if x := do(d, c); x.err != e {
		t.Errorf("%s of %s: error %d, want %d", briefCall(c), brief(d), x.err, e)
	}
}

// checkNext is check for a call that succeeds, and returns a valid disk.
func checkNext(t *testing.T, d disk.Disk, c call) disk.Disk {
	t.Helper()
	checkError(t, d, c, api.OK)
	x := check(t, d, c)
	if !disk.Valid(x) {
		t.Fatalf("%s of %s: %s is not valid", briefCall(c), brief(d), brief(x))
	}
	return x
}

func checkContent(t *testing.T, f disk.File, want string) {
	t.Helper()
	kept := cloneFile(f)
	if b := disk.Content(f); string(b) != want || !sameFile(f, kept) {
		t.Errorf("Content of %s = %s, want %s", briefFile(kept), briefBytes(b), briefBytes([]byte(want)))
	}
}

func checkValid(t *testing.T, what string, d disk.Disk, want bool) {
	t.Helper()
	kept := clone(d)
	if disk.Valid(d) != want || valid(d) != want || !same(d, kept) {
		t.Errorf("%s: Valid of %s is not %v", what, brief(kept), want)
	}
}

func checkCrash(t *testing.T, d disk.Disk, l []disk.Keep) disk.Disk {
	t.Helper()
	kept, keeps := clone(d), slices.Clone(l)
	x, want := disk.Crash(d, l), crashed(d, l)
	if !same(x, want) {
		t.Errorf("Crash of %s with %v\n= %s\nwant %s", brief(kept), keeps, brief(x), brief(want))
	}
	if !same(d, kept) || !slices.Equal(l, keeps) {
		t.Errorf("Crash changed its arguments: %s became %s, %v became %v", brief(kept), brief(d), keeps, l)
	}
	return x
}
