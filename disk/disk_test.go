package disk_test

import (
	"fmt"
	"math"
	"math/rand/v2"
	"slices"
	"strings"
	"testing"

	"thwart/api"
	"thwart/disk"
)

// machine is what a disk and its plain counterpart can do.
type machine interface {
	Append(name, b string) api.Errno
	Read(name string, off, n int) (string, api.Errno)
	Size(name string) (int, api.Errno)
	Sync(name string) api.Errno
	Rename(from, to string) api.Errno
	Remove(name string) api.Errno
	Cut(name string, n int) api.Errno
	List() []string
	Left() int
	Fuse(n int)
	Crash(kept []int)
}

// plainFile is a file as two strings.
type plainFile struct{ name, durable, other string }

// plainDisk follows the chapter's words sentence by sentence, with files in a list in no order.
type plainDisk struct {
	room   int
	files  []plainFile
	fuse   int
	fused  bool
	silent bool
}

func (d *plainDisk) at(name string) int {
	return slices.IndexFunc(d.files, func(f plainFile) bool { return f.name == name })
}

func (d *plainDisk) burn() api.Errno {
	switch {
	case d.silent, d.fused && d.fuse == 0:
		d.silent = true
		return api.ErrDown
	case d.fused:
		d.fuse--
	}
	return api.OK
}

func (d *plainDisk) remove(name string) {
	d.files = slices.DeleteFunc(d.files, func(f plainFile) bool { return f.name == name })
}

func (d *plainDisk) Append(name, b string) api.Errno {
	if len(name) < 1 || len(name) > 20 {
		return api.ErrArg
	}
	if err := d.burn(); err != api.OK {
		return err
	}
	if len(b) > d.Left() {
		return api.ErrFull
	}
	if d.at(name) < 0 {
		d.files = append(d.files, plainFile{name: name})
	}
	d.files[d.at(name)].other += b
	return api.OK
}

func (d *plainDisk) Read(name string, off, n int) (string, api.Errno) {
	i := d.at(name)
	if i < 0 {
		return "", api.ErrNone
	}
	all := d.files[i].durable + d.files[i].other
	if off < 0 || n < 0 || off > len(all) || n > len(all[off:]) {
		return "", api.ErrArg
	}
	return all[off:][:n], api.OK
}

func (d *plainDisk) Size(name string) (int, api.Errno) {
	i := d.at(name)
	if i < 0 {
		return 0, api.ErrNone
	}
	return len(d.files[i].durable + d.files[i].other), api.OK
}

func (d *plainDisk) Sync(name string) api.Errno {
	i := d.at(name)
	if i < 0 {
		return api.ErrNone
	}
	if err := d.burn(); err != api.OK {
		return err
	}
	d.files[i] = plainFile{name: name, durable: d.files[i].durable + d.files[i].other}
	return api.OK
}

func (d *plainDisk) Rename(from, to string) api.Errno {
	if d.at(from) < 0 {
		return api.ErrNone
	}
	if len(to) < 1 || len(to) > 20 {
		return api.ErrArg
	}
	if err := d.burn(); err != api.OK {
		return err
	}
	if from != to {
		d.remove(to)
		d.files[d.at(from)].name = to
	}
	return api.OK
}

func (d *plainDisk) Remove(name string) api.Errno {
	if d.at(name) < 0 {
		return api.ErrNone
	}
	if err := d.burn(); err != api.OK {
		return err
	}
	d.remove(name)
	return api.OK
}

func (d *plainDisk) Cut(name string, n int) api.Errno {
	size, err := d.Size(name)
	if err != api.OK {
		return err
	}
	if n < 0 || n > size {
		return api.ErrArg
	}
	if err := d.burn(); err != api.OK {
		return err
	}
	f := &d.files[d.at(name)]
	if n <= len(f.durable) {
		f.durable, f.other = f.durable[:n], ""
	} else {
		f.other = f.other[:n-len(f.durable)]
	}
	return api.OK
}

func (d *plainDisk) List() []string {
	var l []string
	for _, f := range d.files {
		l = append(l, f.name)
	}
	slices.SortFunc(l, strings.Compare)
	return l
}

func (d *plainDisk) Left() int {
	left := d.room
	for _, f := range d.files {
		left -= len(f.durable) + len(f.other)
	}
	return left
}

func (d *plainDisk) Fuse(n int) {
	d.fuse, d.fused = n, n >= 0
}

func (d *plainDisk) Crash(kept []int) {
	for k, name := range d.List() {
		f := &d.files[d.at(name)]
		remain := 0
		if k < len(kept) && kept[k] > 0 {
			remain = kept[k]
		}
		if remain > len(f.other) {
			remain = len(f.other)
		}
		f.durable, f.other = f.durable+f.other[:remain], ""
	}
	d.silent, d.fused = false, false
}

// call is one call with its arguments; those that the function does not have are zero.
type call struct {
	name   string
	a, b   string
	off, n int
	kept   []int
}

// on makes the call, and tells its results.
func (c call) on(d machine) string {
	switch c.name {
	case "Append":
		return fmt.Sprint(int(d.Append(c.a, c.b)))
	case "Read":
		b, err := d.Read(c.a, c.off, c.n)
		return fmt.Sprintf("%q %d", b, int(err))
	case "Size":
		n, err := d.Size(c.a)
		return fmt.Sprint(n, int(err))
	case "Sync":
		return fmt.Sprint(int(d.Sync(c.a)))
	case "Rename":
		return fmt.Sprint(int(d.Rename(c.a, c.b)))
	case "Remove":
		return fmt.Sprint(int(d.Remove(c.a)))
	case "Cut":
		return fmt.Sprint(int(d.Cut(c.a, c.n)))
	case "Fuse":
		d.Fuse(c.n)
	case "Crash":
		d.Crash(c.kept)
	}
	return ""
}

// contents tells all that can be seen of a disk without changing it.
func contents(d machine) string {
	var b strings.Builder
	fmt.Fprintf(&b, "left %d", d.Left())
	for _, name := range d.List() {
		size, err := d.Size(name)
		all, err2 := d.Read(name, 0, size)
		fmt.Fprintf(&b, ", %q %d %d: %q %d", name, size, int(err), all, int(err2))
	}
	return b.String()
}

// newDisk is a disk of a right size.
func newDisk(t *testing.T, room int) *disk.Disk {
	t.Helper()
	d, err := disk.New(room)
	if d == nil || err != api.OK {
		t.Fatalf("New(%d) = %v, %d", room, d, err)
	}
	return d
}

// want complains about an error number that is another one.
func want(t *testing.T, what string, got, want api.Errno) {
	t.Helper()
	if got != want {
		t.Errorf("%s: %d, want %d", what, got, want)
	}
}

// wantFile complains if a file has other bytes.
func wantFile(t *testing.T, d *disk.Disk, name, b string) {
	t.Helper()
	if n, err := d.Size(name); n != len(b) || err != api.OK {
		t.Errorf("Size(%q) = %d, %d; want %d", name, n, err, len(b))
	}
	if got, err := d.Read(name, 0, len(b)); got != b || err != api.OK {
		t.Errorf("Read(%q) = %q, %d; want %q", name, got, err, b)
	}
}

// wantNone complains if there is a file of this name.
func wantNone(t *testing.T, d *disk.Disk, name string) {
	t.Helper()
	if n, err := d.Size(name); n != 0 || err != api.ErrNone {
		t.Errorf("Size(%q) = %d, %d; want no file", name, n, err)
	}
	if b, err := d.Read(name, 0, 0); b != "" || err != api.ErrNone {
		t.Errorf("Read(%q) = %q, %d; want no file", name, b, err)
	}
	if slices.Contains(d.List(), name) {
		t.Errorf("List() = %q; want no %q", d.List(), name)
	}
}

// wantList complains about names, or a room, that are others.
func wantList(t *testing.T, d *disk.Disk, left int, names ...string) {
	t.Helper()
	if l := d.List(); !slices.Equal(l, names) || d.Left() != left {
		t.Errorf("%q, %d bytes left; want %q, %d", l, d.Left(), names, left)
	}
}

// filled is a disk with files of which the bytes in front of a bar are durable.
func filled(t *testing.T, room int, files map[string]string) *disk.Disk {
	t.Helper()
	d := newDisk(t, room)
	for name, b := range files {
		durable, other, _ := strings.Cut(b, "|")
		if d.Append(name, durable) != api.OK || d.Sync(name) != api.OK || d.Append(name, other) != api.OK {
			t.Fatalf("file %q with %q in %d bytes", name, b, room)
		}
	}
	return d
}

// wantDurable complains if a crash leaves other bytes of a file.
func wantDurable(t *testing.T, d *disk.Disk, name, b string) {
	t.Helper()
	d.Crash(nil)
	wantFile(t, d, name, b)
}

// P6.1

func TestNewOfRoomsAtTheEdges(t *testing.T) {
	for _, room := range []int{math.MinInt, -1 << 20, -2, -1, 1<<20 + 1, 1 << 21, 1 << 40, math.MaxInt} {
		if d, err := disk.New(room); d != nil || err != api.ErrArg {
			t.Errorf("New(%d) = %v, %d", room, d, err)
		}
	}
	for _, room := range []int{0, 1, 2, 1<<20 - 1, 1 << 20} {
		d := newDisk(t, room)
		wantList(t, d, room)
		want(t, "power and no fuse", d.Append("a", strings.Repeat("x", room)), api.OK)
		wantList(t, d, 0, "a")
		want(t, "one more", d.Append("a", "x"), api.ErrFull)
		wantFile(t, d, "a", strings.Repeat("x", room))
	}
}

func TestNewDiskHasNoFuse(t *testing.T) {
	d := newDisk(t, 1000)
	for range 1000 {
		want(t, "Append", d.Append("a", "x"), api.OK)
		want(t, "Sync", d.Sync("a"), api.OK)
	}
}

func TestDisksShareNothing(t *testing.T) {
	a, b := newDisk(t, 10), newDisk(t, 10)
	a.Append("a", "xyz")
	a.Fuse(0)
	a.Remove("a")
	wantList(t, b, 10)
	want(t, "the other has power", b.Append("b", "x"), api.OK)
	wantList(t, a, 7, "a")
}

func TestLeftIsRoomMinusAllBytes(t *testing.T) {
	d := newDisk(t, 100)
	for i, step := range []struct {
		do   func() api.Errno
		left int
	}{
		{func() api.Errno { return d.Append("a", "0123456789") }, 90},
		{func() api.Errno { return d.Append("b", "01234") }, 85},
		{func() api.Errno { return d.Append("a", "x") }, 84},
		{func() api.Errno { return d.Append("c", "") }, 84},
		{func() api.Errno { return d.Sync("a") }, 84},
		{func() api.Errno { return d.Cut("a", 4) }, 91},
		{func() api.Errno { return d.Rename("a", "d") }, 91},
		{func() api.Errno { return d.Rename("d", "b") }, 96},
		{func() api.Errno { return d.Rename("b", "b") }, 96},
		{func() api.Errno { return d.Append("b", "xyz") }, 93},
		{func() api.Errno { d.Crash([]int{2}); return api.OK }, 94},
		{func() api.Errno { return d.Remove("c") }, 94},
		{func() api.Errno { return d.Remove("b") }, 100},
	} {
		want(t, fmt.Sprint("step ", i), step.do(), api.OK)
		if d.Left() != step.left {
			t.Errorf("step %d: %d bytes left, want %d", i, d.Left(), step.left)
		}
	}
}

func TestListIsInIncreasingOrder(t *testing.T) {
	names := []string{"\x00", "\x00\x00", "0", "10", "9", "A", "B", "a", "a\x00", "a0", "aa", "ab", "b", "é", "\xff", "\xff\xff"}
	for range 20 {
		d := newDisk(t, 0)
		for _, i := range rand.New(rand.NewPCG(1, 2)).Perm(len(names)) {
			want(t, "Append", d.Append(names[i], ""), api.OK)
		}
		wantList(t, d, 0, names...)
	}
	for i := range names {
		d := newDisk(t, 0)
		for _, name := range slices.Concat(names[i:], names[:i]) {
			want(t, "Append", d.Append(name, ""), api.OK)
		}
		wantList(t, d, 0, names...)
		want(t, "Remove", d.Remove(names[i]), api.OK)
		wantList(t, d, 0, slices.Concat(names[:i], names[i+1:])...)
	}
}

func TestListOfManyFiles(t *testing.T) {
	const many = 3000
	d := newDisk(t, many)
	var names []string
	for i := range many {
		names = append(names, fmt.Sprintf("%06d", i))
	}
	for _, i := range rand.New(rand.NewPCG(3, 4)).Perm(many) {
		want(t, "Append", d.Append(names[i], "x"), api.OK)
	}
	wantList(t, d, 0, names...)
	for i := 0; i < many; i += 2 {
		want(t, "Remove", d.Remove(names[i]), api.OK)
	}
	l := d.List()
	if len(l) != many/2 || !slices.IsSorted(l) || l[0] != names[1] || l[many/2-1] != names[many-1] || d.Left() != many/2 {
		t.Errorf("%d files, %d bytes left", len(l), d.Left())
	}
}

func TestListMayBeWrittenTo(t *testing.T) {
	d := filled(t, 20, map[string]string{"a": "1|2", "b": "34|5", "c": "|6"})
	first, again := d.List(), d.List()
	for i := range first {
		first[i] = "z"
	}
	first = append(first[:1], "y")
	_ = append(first[:0], "a", "a", "a", "a", "a")
	if !slices.Equal(again, []string{"a", "b", "c"}) {
		t.Errorf("the other list is %q", again)
	}
	wantList(t, d, 14, "a", "b", "c")
	clear(d.List())
	want(t, "Append", d.Append("aa", "7"), api.OK)
	want(t, "Remove", d.Remove("b"), api.OK)
	wantList(t, d, 16, "a", "aa", "c")
	slices.Reverse(d.List())
	d.Crash([]int{0, 1, 0})
	wantFile(t, d, "a", "1")
	wantFile(t, d, "aa", "7")
	wantFile(t, d, "c", "")
	wantList(t, d, 18, "a", "aa", "c")
}

func TestListStaysAsItWas(t *testing.T) {
	d := filled(t, 20, map[string]string{"b": "", "c": "", "d": ""})
	l := d.List()
	d.Append("a", "")
	d.Remove("c")
	d.Rename("d", "e")
	if !slices.Equal(l, []string{"b", "c", "d"}) {
		t.Errorf("an earlier list became %q", l)
	}
}

func TestReadFromEveryPlaceForEveryLength(t *testing.T) {
	numbers := []int{math.MinInt, math.MinInt + 1, -1 << 40, -100, -3, -2, -1, 1 << 20, 1 << 32, 1 << 62, math.MaxInt - 11, math.MaxInt - 10, math.MaxInt - 1, math.MaxInt}
	for i := range 13 {
		numbers = append(numbers, i)
	}
	for _, b := range []string{"", "|", "x|", "|x", "0123456789|", "012345|6789", "|\x00\xff\x80é\x00b"} {
		d := filled(t, 20, map[string]string{"a": b, "b": "more bytes"})
		all := strings.Replace(b, "|", "", 1)
		for _, off := range numbers {
			for _, n := range numbers {
				wanted, wantErr := "", api.ErrArg
				if off >= 0 && n >= 0 && off <= len(all) && n <= len(all) && off+n <= len(all) {
					wanted, wantErr = all[off:off+n], api.OK
				}
				if got, err := d.Read("a", off, n); got != wanted || err != wantErr {
					t.Errorf("Read(%d, %d) of %q = %q, %d; want %q, %d", off, n, all, got, err, wanted, wantErr)
				}
			}
		}
	}
}

func TestReadAndSizeOfNoFile(t *testing.T) {
	d := filled(t, 20, map[string]string{"a": "xyz", "bb": "xyz"})
	for _, name := range []string{"", "b", "A", "aa", "a\x00", "bbb", text(20), text(21), text(1000)} {
		wantNone(t, d, name)
		for _, n := range []int{-1, 0, 1, 3, 4, math.MinInt, math.MaxInt} {
			if b, err := d.Read(name, n, n); b != "" || err != api.ErrNone {
				t.Errorf("Read(%q, %d, %d) = %q, %d", name, n, n, b, err)
			}
		}
	}
}

func TestWhatWasReadStaysAsItWas(t *testing.T) {
	d := filled(t, 20, map[string]string{"a": "012|345"})
	b, err := d.Read("a", 1, 5)
	want(t, "Read", err, api.OK)
	want(t, "Cut", d.Cut("a", 1), api.OK)
	want(t, "Append", d.Append("a", "vwxyz"), api.OK)
	if b != "12345" {
		t.Errorf("the bytes became %q", b)
	}
	wantFile(t, d, "a", "0vwxyz")
	wantDurable(t, d, "a", "0")
}

// text is a name or a string of so many bytes.
func text(size int) string {
	return strings.Repeat("n", size)
}

// P6.2

func TestAppendToNamesOfManySizes(t *testing.T) {
	for _, name := range []string{"n", text(2), text(19), text(20), "\x00", "/", "..", "\xff", strings.Repeat("é", 10), strings.Repeat("\x80", 20)} {
		d := newDisk(t, 3)
		want(t, "Append to "+name, d.Append(name, "xy"), api.OK)
		wantFile(t, d, name, "xy")
		wantList(t, d, 1, name)
	}
	for _, name := range []string{"", text(21), text(22), text(300), strings.Repeat("é", 11), strings.Repeat("é", 20), strings.Repeat("\x00", 21)} {
		d := newDisk(t, 3)
		for _, b := range []string{"", "xy", "xyz", "0123"} {
			want(t, fmt.Sprintf("Append of %d bytes to a name of %d", len(b), len(name)), d.Append(name, b), api.ErrArg)
		}
		wantNone(t, d, name)
		wantList(t, d, 3)
	}
}

func TestAppendPutsBytesBehind(t *testing.T) {
	d := newDisk(t, 100)
	all := ""
	for _, b := range []string{"x", "", "yz", "\x00\xff", "é", "", "a longer one"} {
		want(t, "Append", d.Append("a", b), api.OK)
		all += b
		wantFile(t, d, "a", all)
		wantList(t, d, 100-len(all), "a")
	}
}

func TestAppendOfTheEmptyString(t *testing.T) {
	for _, room := range []int{0, 1, 10} {
		d := newDisk(t, room)
		want(t, "to no file", d.Append("a", ""), api.OK)
		wantFile(t, d, "a", "")
		want(t, "to an empty file", d.Append("a", ""), api.OK)
		wantFile(t, d, "a", "")
		wantList(t, d, room, "a")
		wantDurable(t, d, "a", "")
		wantList(t, d, room, "a")
	}
	d := filled(t, 3, map[string]string{"a": "x|yz"})
	want(t, "to a full disk", d.Append("b", ""), api.OK)
	want(t, "to a file of a full disk", d.Append("a", ""), api.OK)
	wantFile(t, d, "a", "xyz")
	wantList(t, d, 0, "a", "b")
	wantDurable(t, d, "a", "x")
}

func TestAppendOfAsManyBytesAsAreLeft(t *testing.T) {
	for _, size := range []int{0, 1, 2, 7, 1000, 1<<20 - 5} {
		for _, name := range []string{"a", "b"} {
			d := newDisk(t, size+5)
			want(t, "Append", d.Append("a", "01234"), api.OK)
			for _, more := range []int{1, 2, 1 << 20} {
				want(t, fmt.Sprint(more, " more than are left"), d.Append(name, text(size+more)), api.ErrFull)
				wantList(t, d, size, "a")
				wantFile(t, d, "a", "01234")
			}
			want(t, "as many as are left", d.Append(name, text(size)), api.OK)
			if d.Left() != 0 {
				t.Errorf("%d bytes left", d.Left())
			}
			if name == "a" {
				wantFile(t, d, "a", "01234"+text(size))
			} else {
				wantFile(t, d, "b", text(size))
			}
		}
	}
}

func TestAppendThatDoesNotFitMakesNoFile(t *testing.T) {
	d := newDisk(t, 2)
	want(t, "Append", d.Append("a", "xyz"), api.ErrFull)
	wantNone(t, d, "a")
	wantList(t, d, 2)
	want(t, "Sync", d.Sync("a"), api.ErrNone)
}

func TestAppendIsNotDurableUntilSync(t *testing.T) {
	d := newDisk(t, 10)
	d.Append("a", "xy")
	wantDurable(t, d, "a", "")
	d.Append("a", "xy")
	want(t, "Sync", d.Sync("a"), api.OK)
	d.Append("a", "z")
	wantFile(t, d, "a", "xyz")
	wantDurable(t, d, "a", "xy")
	d.Append("a", "z")
	want(t, "Sync", d.Sync("a"), api.OK)
	want(t, "Sync again", d.Sync("a"), api.OK)
	wantDurable(t, d, "a", "xyz")
}

func TestSyncIsOfOneFile(t *testing.T) {
	d := filled(t, 20, map[string]string{"a": "1|2", "b": "3|4", "c": "5|6"})
	want(t, "Sync", d.Sync("b"), api.OK)
	wantList(t, d, 14, "a", "b", "c")
	d.Crash(nil)
	wantFile(t, d, "a", "1")
	wantFile(t, d, "b", "34")
	wantFile(t, d, "c", "5")
	for _, name := range []string{"", "d", "aa", text(20), text(21)} {
		want(t, "Sync of no file", d.Sync(name), api.ErrNone)
	}
	wantList(t, d, 16, "a", "b", "c")
}

func TestRenameToAFreeName(t *testing.T) {
	for _, to := range []string{"n", "0", "m", "z", text(20), "\x00", "\xff"} {
		d := filled(t, 20, map[string]string{"b": "12|34", "c": "5|"})
		want(t, "Rename", d.Rename("b", to), api.OK)
		wantNone(t, d, "b")
		wantFile(t, d, to, "1234")
		names := []string{"c", to}
		slices.Sort(names)
		wantList(t, d, 15, names...)
		want(t, "Rename again", d.Rename("b", to), api.ErrNone)
		want(t, "Append", d.Append("b", "new"), api.OK)
		wantFile(t, d, "b", "new")
		wantFile(t, d, to, "1234")
		wantDurable(t, d, to, "12")
		wantFile(t, d, "b", "")
		wantFile(t, d, "c", "5")
	}
}

func TestRenameToANameThatIsTaken(t *testing.T) {
	for _, files := range []map[string]string{
		{"a": "12|34", "b": "567|89", "c": "0|"},
		{"a": "|1", "b": "56789|", "c": "0|"},
		{"a": "1234567|", "b": "|5", "c": "0|"},
		{"a": "|", "b": "5|5", "c": "0|"},
		{"a": "1|2", "b": "|", "c": "0|"},
	} {
		for _, names := range [][2]string{{"a", "b"}, {"b", "a"}} {
			from, to := names[0], names[1]
			d := filled(t, 20, files)
			want(t, "Rename", d.Rename(from, to), api.OK)
			wantNone(t, d, from)
			durable, other, _ := strings.Cut(files[from], "|")
			wantFile(t, d, to, durable+other)
			wantFile(t, d, "c", "0")
			l := []string{to, "c"}
			slices.Sort(l)
			wantList(t, d, 19-len(durable+other), l...)
			wantDurable(t, d, to, durable)
			wantNone(t, d, from)
			wantFile(t, d, "c", "0")
		}
	}
}

func TestRenameToTheOwnName(t *testing.T) {
	for _, name := range []string{"a", "b", "c"} {
		d := filled(t, 6, map[string]string{"a": "1|2", "b": "3|4", "c": "5|6"})
		d.Fuse(1)
		want(t, "Rename", d.Rename(name, name), api.OK)
		wantList(t, d, 0, "a", "b", "c")
		want(t, "it burns", d.Rename(name, name), api.ErrDown)
		wantFile(t, d, "a", "12")
		wantFile(t, d, "b", "34")
		wantFile(t, d, "c", "56")
		d.Crash(nil)
		wantFile(t, d, "a", "1")
		wantFile(t, d, "b", "3")
		wantFile(t, d, "c", "5")
		wantList(t, d, 3, "a", "b", "c")
	}
}

func TestRenameToANameThatIsNotValid(t *testing.T) {
	for _, to := range []string{"", text(21), text(22), text(300), strings.Repeat("é", 11)} {
		d := filled(t, 20, map[string]string{"a": "1|2"})
		want(t, "Rename", d.Rename("a", to), api.ErrArg)
		wantNone(t, d, to)
		wantFile(t, d, "a", "12")
		wantList(t, d, 18, "a")
		want(t, "Rename of no file", d.Rename("b", to), api.ErrNone)
		want(t, "Rename of no valid name", d.Rename(to, to), api.ErrNone)
	}
}

func TestRemoveGivesTheRoomBack(t *testing.T) {
	d := filled(t, 10, map[string]string{"a": "12|34", "b": "567|", "c": "|890"})
	want(t, "full", d.Append("d", "x"), api.ErrFull)
	want(t, "Remove", d.Remove("a"), api.OK)
	wantNone(t, d, "a")
	wantList(t, d, 4, "b", "c")
	want(t, "Remove again", d.Remove("a"), api.ErrNone)
	want(t, "one more", d.Append("a", "abcde"), api.ErrFull)
	want(t, "all of the room", d.Append("a", "abcd"), api.OK)
	wantFile(t, d, "a", "abcd")
	wantDurable(t, d, "a", "")
	wantFile(t, d, "b", "567")
	wantFile(t, d, "c", "")
	for _, name := range []string{"c", "b", "a"} {
		want(t, "Remove", d.Remove(name), api.OK)
	}
	wantList(t, d, 10)
	d.Crash([]int{1, 2, 3})
	wantList(t, d, 10)
	for _, name := range []string{"", "a", "b", text(20), text(21)} {
		want(t, "Remove of no file", d.Remove(name), api.ErrNone)
	}
}

func TestCutToEveryLength(t *testing.T) {
	const all = "0123456789"
	for durable := range len(all) + 1 {
		for n := range len(all) + 1 {
			d := filled(t, 30, map[string]string{"a": all[:durable] + "|" + all[durable:], "b": "x|y"})
			want(t, "Cut", d.Cut("a", n), api.OK)
			wantFile(t, d, "a", all[:n])
			wantList(t, d, 28-n, "a", "b")
			want(t, "Append", d.Append("a", "abc"), api.OK)
			wantFile(t, d, "a", all[:n]+"abc")
			wantFile(t, d, "b", "xy")
			wantDurable(t, d, "a", all[:min(n, durable)])
			wantFile(t, d, "b", "x")
		}
	}
}

func TestCutOfNumbersThatAreNotValid(t *testing.T) {
	for _, b := range []string{"|", "x|", "|x", "12|34"} {
		// The bar counts in len(b), which is one beyond the size.
		for _, n := range []int{math.MinInt, -1 << 40, -2, -1, len(b), len(b) + 1, 1 << 20, 1 << 40, math.MaxInt} {
			d := filled(t, 10, map[string]string{"a": b})
			before := contents(d)
			want(t, fmt.Sprintf("Cut of %q to %d", b, n), d.Cut("a", n), api.ErrArg)
			if after := contents(d); after != before {
				t.Errorf("Cut to %d: %s, before: %s", n, after, before)
			}
			want(t, "Cut of no file", d.Cut("b", n), api.ErrNone)
			want(t, "Cut of no valid name", d.Cut("", n), api.ErrNone)
			durable, _, _ := strings.Cut(b, "|")
			wantDurable(t, d, "a", durable)
		}
	}
}

// Burning, and the order in which errors are looked for

// expected is a call, and what it tells.
type expected struct {
	call
	result string
}

// burning are calls that burn on the disk of small, and what they tell if there is power.
func burning() []expected {
	return []expected{
		{call{name: "Append", a: "a", b: "x"}, "0"},
		{call{name: "Append", a: "a"}, "0"},
		{call{name: "Append", a: "c"}, "0"},
		{call{name: "Append", a: "a", b: "xy"}, "6"},
		{call{name: "Append", a: "c", b: "xyz"}, "6"},
		{call{name: "Sync", a: "a"}, "0"},
		{call{name: "Rename", a: "a", b: "a"}, "0"},
		{call{name: "Rename", a: "a", b: "b"}, "0"},
		{call{name: "Rename", a: "b", b: "c"}, "0"},
		{call{name: "Rename", a: "b", b: text(20)}, "0"},
		{call{name: "Remove", a: "a"}, "0"},
		{call{name: "Cut", a: "a", n: 0}, "0"},
		{call{name: "Cut", a: "a", n: 2}, "0"},
	}
}

// idle are calls on that disk that do not burn, since an earlier error holds, or since they change nothing.
func idle() []expected {
	return []expected{
		{call{name: "Append"}, "1"},
		{call{name: "Append", b: "x"}, "1"},
		{call{name: "Append", b: "xyz"}, "1"},
		{call{name: "Append", a: text(21), b: "xyz"}, "1"},
		{call{name: "Sync"}, "5"},
		{call{name: "Sync", a: "c"}, "5"},
		{call{name: "Rename"}, "5"},
		{call{name: "Rename", a: "c"}, "5"},
		{call{name: "Rename", a: "c", b: "a"}, "5"},
		{call{name: "Rename", a: "c", b: "c"}, "5"},
		{call{name: "Rename", a: "c", b: text(21)}, "5"},
		{call{name: "Rename", a: "a"}, "1"},
		{call{name: "Rename", a: "a", b: text(21)}, "1"},
		{call{name: "Remove"}, "5"},
		{call{name: "Remove", a: "c"}, "5"},
		{call{name: "Cut", a: "c"}, "5"},
		{call{name: "Cut", a: "c", n: -1}, "5"},
		{call{name: "Cut", a: "a", n: -1}, "1"},
		{call{name: "Cut", a: "a", n: 3}, "1"},
		{call{name: "Read", a: "a", off: 1, n: 1}, `"2" 0`},
		{call{name: "Read", a: "a", off: 1, n: 2}, `"" 1`},
		{call{name: "Read", a: "a", off: -1}, `"" 1`},
		{call{name: "Read", a: "c", off: -1}, `"" 5`},
		{call{name: "Read", a: "c"}, `"" 5`},
		{call{name: "Size", a: "a"}, "2 0"},
		{call{name: "Size", a: "c"}, "0 5"},
	}
}

// small is a disk with room for one more byte.
func small(t *testing.T) *disk.Disk {
	t.Helper()
	return filled(t, 4, map[string]string{"a": "12|", "b": "3|"})
}

// unplugged is the same disk without power.
func unplugged(t *testing.T) *disk.Disk {
	t.Helper()
	d := small(t)
	d.Fuse(0)
	want(t, "the last burning", d.Sync("a"), api.ErrDown)
	return d
}

func TestCallsThatBurnWithPower(t *testing.T) {
	for _, c := range burning() {
		for _, fuse := range []int{-5, -1, 1, 2, math.MaxInt, math.MinInt} {
			d := small(t)
			d.Fuse(fuse)
			if got := c.on(d); got != c.result {
				t.Errorf("%+v with fuse %d: %s", c, fuse, got)
			}
		}
	}
}

func TestCallsThatBurnWithAFuseAtItsEnd(t *testing.T) {
	for _, c := range burning() {
		d := small(t)
		d.Fuse(0)
		before := contents(d)
		for range 3 {
			if got := c.on(d); got != "8" {
				t.Errorf("%+v: %s", c, got)
			}
		}
		if after := contents(d); after != before {
			t.Errorf("%+v: %s, before: %s", c, after, before)
		}
		d.Crash(nil)
		if after := contents(d); after != before {
			t.Errorf("%+v, and a crash: %s, before: %s", c, after, before)
		}
	}
}

func TestEachCallThatBurnsCounts(t *testing.T) {
	for _, c := range burning() {
		for fuse := 1; fuse <= 4; fuse++ {
			d := small(t)
			d.Fuse(fuse)
			c.on(d)
			for i := 1; i < fuse; i++ {
				want(t, fmt.Sprintf("%+v with fuse %d, and %d more", c, fuse, i), d.Append("other", ""), api.OK)
			}
			want(t, fmt.Sprintf("%+v with fuse %d, at its end", c, fuse), d.Append("other", ""), api.ErrDown)
		}
	}
}

func TestCallsThatDoNotBurn(t *testing.T) {
	for _, c := range idle() {
		d := small(t)
		before := contents(d)
		if got := c.on(d); got != c.result {
			t.Errorf("%+v: %s", c, got)
		}
		d.Fuse(1)
		for range 3 {
			if got := c.on(d); got != c.result {
				t.Errorf("%+v with a fuse: %s", c, got)
			}
		}
		if after := contents(d); after != before {
			t.Errorf("%+v: %s, before: %s", c, after, before)
		}
		want(t, fmt.Sprintf("%+v did not burn", c), d.Sync("a"), api.OK)
		want(t, fmt.Sprintf("%+v with the fuse at its end", c), d.Sync("a"), api.ErrDown)
	}
}

func TestCallsThatDoNotBurnLeaveThePower(t *testing.T) {
	for _, c := range idle() {
		d := small(t)
		d.Fuse(0)
		if got := c.on(d); got != c.result {
			t.Errorf("%+v with a fuse at its end: %s", c, got)
		}
		d.Fuse(-1)
		want(t, fmt.Sprintf("%+v let the power go", c), d.Sync("a"), api.OK)
	}
}

func TestCallsWithoutPower(t *testing.T) {
	for _, fuse := range []int{-1, 0, 1, 100} {
		for _, c := range burning() {
			d := unplugged(t)
			d.Fuse(fuse)
			before := contents(d)
			if got := c.on(d); got != "8" {
				t.Errorf("%+v without power, with fuse %d: %s", c, fuse, got)
			}
			if after := contents(d); after != before {
				t.Errorf("%+v without power: %s, before: %s", c, after, before)
			}
		}
		for _, c := range idle() {
			d := unplugged(t)
			d.Fuse(fuse)
			if got := c.on(d); got != c.result {
				t.Errorf("%+v without power, with fuse %d: %s", c, fuse, got)
			}
		}
	}
}

func TestWhatIsSeenWithoutPower(t *testing.T) {
	d := filled(t, 20, map[string]string{"a": "12|34", "b": "|5"})
	d.Fuse(0)
	want(t, "Append", d.Append("c", "x"), api.ErrDown)
	wantList(t, d, 15, "a", "b")
	wantFile(t, d, "a", "1234")
	wantFile(t, d, "b", "5")
	wantNone(t, d, "c")
	if b, err := d.Read("a", 1, 2); b != "23" || err != api.OK {
		t.Errorf("Read = %q, %d", b, err)
	}
	d.Crash([]int{1})
	wantList(t, d, 17, "a", "b")
	wantFile(t, d, "a", "123")
	wantFile(t, d, "b", "")
}

func TestAFuseCountsDown(t *testing.T) {
	for _, fuse := range []int{0, 1, 2, 3, 50} {
		d := newDisk(t, 100)
		d.Fuse(fuse)
		for i := range fuse {
			want(t, fmt.Sprintf("call %d with fuse %d", i, fuse), d.Append("a", "x"), api.OK)
		}
		for range 3 {
			want(t, fmt.Sprintf("behind fuse %d", fuse), d.Append("a", "x"), api.ErrDown)
		}
		if fuse > 0 {
			wantFile(t, d, "a", strings.Repeat("x", fuse))
		} else {
			wantNone(t, d, "a")
		}
	}
}

func TestAFuseReplacesTheFuse(t *testing.T) {
	d := newDisk(t, 100)
	d.Fuse(1)
	d.Fuse(3)
	for range 2 {
		want(t, "three, not one", d.Append("a", "x"), api.OK)
	}
	d.Fuse(2)
	for range 2 {
		want(t, "two again", d.Append("a", "x"), api.OK)
	}
	d.Fuse(-1)
	for range 20 {
		want(t, "no fuse", d.Append("a", "x"), api.OK)
	}
	d.Fuse(10)
	d.Fuse(0)
	want(t, "none, not ten", d.Append("a", "x"), api.ErrDown)
}

func TestNegativeFusesAreNone(t *testing.T) {
	for _, n := range []int{-1, -2, -3, -1 << 20, math.MinInt} {
		d := newDisk(t, 100)
		d.Fuse(1)
		d.Fuse(n)
		for range 100 {
			want(t, fmt.Sprint("fuse ", n), d.Append("a", "x"), api.OK)
		}
	}
}

func TestAFuseDoesNotBringThePowerBack(t *testing.T) {
	for _, n := range []int{math.MinInt, -1, 0, 1, 5, math.MaxInt} {
		d := unplugged(t)
		d.Fuse(n)
		for range 7 {
			want(t, fmt.Sprint("fuse ", n), d.Append("a", ""), api.ErrDown)
		}
		d.Crash(nil)
		for range 7 {
			want(t, fmt.Sprintf("fuse %d before the crash", n), d.Append("a", ""), api.OK)
		}
	}
}

// P6.3

func TestCrashExample(t *testing.T) {
	d := newDisk(t, 10)
	want(t, "Append", d.Append("a", "xy"), api.OK)
	want(t, "Sync", d.Sync("a"), api.OK)
	want(t, "Append", d.Append("a", "z"), api.OK)
	d.Crash(nil)
	wantFile(t, d, "a", "xy")
	wantList(t, d, 8, "a")
}

func TestCrashOfOneFile(t *testing.T) {
	const all = "0123456789"
	for durable := range len(all) + 1 {
		for _, kept := range []int{math.MinInt, -100, -1, 0, 1, 2, 3, 5, 9, 10, 11, 1 << 20, 1 << 40, math.MaxInt - 1, math.MaxInt} {
			d := filled(t, 30, map[string]string{"a": all[:durable] + "|" + all[durable:]})
			d.Crash([]int{kept})
			remain := durable
			for remain < len(all) && remain-durable < kept {
				remain++
			}
			wantFile(t, d, "a", all[:remain])
			wantList(t, d, 30-remain, "a")
			want(t, "Append", d.Append("a", "more"), api.OK)
			wantFile(t, d, "a", all[:remain]+"more")
			wantDurable(t, d, "a", all[:remain])
		}
	}
}

func TestCrashOfSeveralFiles(t *testing.T) {
	files := map[string]string{"a": "12|345", "aa": "|67", "b": "8|", "c": "|", "d": "9|0ab"}
	for _, x := range []struct {
		kept   []int
		wanted []string
	}{
		{nil, []string{"12", "", "8", "", "9"}},
		{[]int{}, []string{"12", "", "8", "", "9"}},
		{[]int{0}, []string{"12", "", "8", "", "9"}},
		{[]int{1}, []string{"123", "", "8", "", "9"}},
		{[]int{3, 1}, []string{"12345", "6", "8", "", "9"}},
		{[]int{4, 2}, []string{"12345", "67", "8", "", "9"}},
		{[]int{-1, 5, 5, 5}, []string{"12", "67", "8", "", "9"}},
		{[]int{2, -1, -1, -1, 1}, []string{"1234", "", "8", "", "90"}},
		{[]int{0, 0, 0, 0, 3}, []string{"12", "", "8", "", "90ab"}},
		{[]int{1, 1, 1, 1, 1, 1, 1, 1, 1}, []string{"123", "6", "8", "", "90"}},
		{[]int{9, 9, 9, 9, 9, -9, 9}, []string{"12345", "67", "8", "", "90ab"}},
		{[]int{math.MaxInt, math.MaxInt, math.MaxInt, math.MaxInt, math.MaxInt}, []string{"12345", "67", "8", "", "90ab"}},
		{[]int{math.MinInt, math.MaxInt, math.MinInt, 1, math.MinInt, math.MaxInt}, []string{"12", "67", "8", "", "9"}},
	} {
		d := filled(t, 40, files)
		kept := slices.Clone(x.kept)
		d.Crash(kept)
		if !slices.Equal(kept, x.kept) {
			t.Errorf("%d was changed to %d", x.kept, kept)
		}
		left := 40
		for i, name := range []string{"a", "aa", "b", "c", "d"} {
			wantFile(t, d, name, x.wanted[i])
			left -= len(x.wanted[i])
		}
		wantList(t, d, left, "a", "aa", "b", "c", "d")
		before := contents(d)
		d.Crash(nil)
		if after := contents(d); after != before {
			t.Errorf("Crash(%d), and one more: %s, before: %s", x.kept, after, before)
		}
	}
}

func TestCrashCountsTheFilesInTheOrderOfTheirNames(t *testing.T) {
	d := newDisk(t, 40)
	for _, name := range []string{"c", "a", "d", "b"} {
		want(t, "Append", d.Append(name, "12345"), api.OK)
	}
	want(t, "Rename", d.Rename("a", "e"), api.OK)
	want(t, "Remove", d.Remove("c"), api.OK)
	d.Crash([]int{1, 2, 3, 4})
	wantFile(t, d, "b", "1")
	wantFile(t, d, "d", "12")
	wantFile(t, d, "e", "123")
	wantList(t, d, 34, "b", "d", "e")
}

func TestTwoCrashes(t *testing.T) {
	d := filled(t, 20, map[string]string{"a": "1|234", "b": "|567"})
	d.Crash([]int{2, 1})
	d.Crash([]int{5, 5})
	wantFile(t, d, "a", "123")
	wantFile(t, d, "b", "5")
	d.Append("a", "xyz")
	d.Crash([]int{2})
	d.Crash(nil)
	wantFile(t, d, "a", "123xy")
	wantList(t, d, 14, "a", "b")
}

func TestCrashOfNoFiles(t *testing.T) {
	d := newDisk(t, 5)
	d.Crash([]int{1, 2})
	wantList(t, d, 5)
	d.Fuse(0)
	want(t, "Append", d.Append("a", "x"), api.ErrDown)
	d.Crash(nil)
	wantList(t, d, 5)
	want(t, "Append", d.Append("a", "x"), api.OK)
}

func TestCrashTakesTheFuseAway(t *testing.T) {
	for _, fuse := range []int{0, 1, 2} {
		d := newDisk(t, 100)
		d.Fuse(fuse)
		d.Crash(nil)
		for range 50 {
			want(t, fmt.Sprintf("fuse %d before the crash", fuse), d.Append("a", "x"), api.OK)
		}
	}
}

func TestNamesSurviveACrash(t *testing.T) {
	d := newDisk(t, 10)
	d.Append("a", "1")
	d.Append("b", "2")
	d.Append("c", "3")
	d.Rename("a", "d")
	d.Remove("b")
	d.Crash(nil)
	wantList(t, d, 10, "c", "d")
}

// P6.4, and all promises together

// names are those that the runs use: two that are not valid, and some of which files exist.
func names() []string {
	return []string{"", "a", "aa", "b", "B", text(20), text(21)}
}

// anyNumber is mostly a small one.
func anyNumber(r *rand.Rand) int {
	if r.IntN(12) == 0 {
		far := []int{math.MinInt, -1 << 40, -2, 1 << 40, math.MaxInt - 1, math.MaxInt}
		return far[r.IntN(len(far))]
	}
	return r.IntN(14) - 1
}

// anyKept is what a crash keeps of no or some files.
func anyKept(r *rand.Rand) []int {
	var kept []int
	for range r.IntN(7) {
		kept = append(kept, anyNumber(r))
	}
	return kept
}

// anyCall is one of all calls, most of them without an error.
func anyCall(r *rand.Rand) call {
	l := names()
	a, b := l[r.IntN(len(l))], l[r.IntN(len(l))]
	if r.IntN(4) > 0 {
		a, b = l[1+r.IntN(4)], l[1+r.IntN(4)]
	}
	switch k := r.IntN(40); {
	case k < 13:
		return call{name: "Append", a: a, b: "0123456789abcdef"[:r.IntN(17)]}
	case k < 19:
		return call{name: "Sync", a: a}
	case k < 24:
		return call{name: "Rename", a: a, b: b}
	case k < 26:
		return call{name: "Remove", a: a}
	case k < 31:
		return call{name: "Cut", a: a, n: anyNumber(r)}
	case k < 34:
		return call{name: "Read", a: a, off: anyNumber(r), n: anyNumber(r)}
	case k < 36:
		return call{name: "Size", a: a}
	case k < 38:
		return call{name: "Fuse", n: anyNumber(r)}
	default:
		return call{name: "Crash", kept: anyKept(r)}
	}
}

// same makes calls on a disk and on its plain counterpart, and complains where they differ.
func same(t *testing.T, room int, l []call) (*disk.Disk, *plainDisk) {
	t.Helper()
	d, p := newDisk(t, room), &plainDisk{room: room}
	for i, c := range l {
		got, wanted := c.on(d), c.on(p)
		if got != wanted {
			t.Fatalf("call %d of %+v: %s, want %s", i, l[:i+1], got, wanted)
		}
		if got, wanted := contents(d), contents(p); got != wanted {
			t.Fatalf("behind call %d of %+v: %s; want %s", i, l[:i+1], got, wanted)
		}
	}
	return d, p
}

// afterCrash complains if a crash takes durable bytes away, or leaves more than the first bytes of a file.
func afterCrash(t *testing.T, d *disk.Disk, p *plainDisk, kept []int) {
	t.Helper()
	d.Crash(kept)
	if l := d.List(); !slices.Equal(l, p.List()) {
		t.Fatalf("files %q, before the crash: %q", l, p.List())
	}
	for _, f := range p.files {
		size, _ := d.Size(f.name)
		b, err := d.Read(f.name, 0, size)
		if err != api.OK || !strings.HasPrefix(b, f.durable) || !strings.HasPrefix(f.durable+f.other, b) {
			t.Fatalf("%q, %d behind Crash(%d) of %+v", b, err, kept, f)
		}
	}
	p.Crash(kept)
	if got, wanted := contents(d), contents(p); got != wanted {
		t.Fatalf("behind Crash(%d): %s; want %s", kept, got, wanted)
	}
	want(t, "power", d.Append("a", ""), api.OK)
}

func TestRunsOfCalls(t *testing.T) {
	r := rand.New(rand.NewPCG(5, 6))
	for range 400 {
		var l []call
		for range 200 {
			l = append(l, anyCall(r))
		}
		same(t, r.IntN(80), l)
	}
}

func TestRunsOfCallsWithACrashBehindEach(t *testing.T) {
	r := rand.New(rand.NewPCG(7, 8))
	for range 60 {
		room := r.IntN(80)
		var l []call
		for range 60 {
			l = append(l, anyCall(r))
			for _, kept := range [][]int{nil, {1, 1, 1, 1, 1}, slices.Repeat([]int{math.MaxInt}, 9), anyKept(r)} {
				d, p := same(t, room, l)
				afterCrash(t, d, p, kept)
			}
		}
	}
}

func TestRunsWithoutCrashesInBetween(t *testing.T) {
	r := rand.New(rand.NewPCG(9, 10))
	for range 60 {
		var l []call
		for range 150 {
			if c := anyCall(r); c.name != "Crash" && c.name != "Fuse" {
				l = append(l, c)
			}
		}
		d, p := same(t, 200, l)
		afterCrash(t, d, p, anyKept(r))
	}
}

func TestTheSameCallsHaveTheSameResults(t *testing.T) {
	r := rand.New(rand.NewPCG(11, 12))
	var l []call
	for range 500 {
		l = append(l, anyCall(r))
	}
	first := newDisk(t, 60)
	var results []string
	for _, c := range l {
		results = append(results, c.on(first), contents(first))
	}
	again := newDisk(t, 60)
	for i, c := range l {
		if a, b := c.on(again), contents(again); a != results[2*i] || b != results[2*i+1] {
			t.Fatalf("call %d: %s, %s; the first time %s, %s", i, a, b, results[2*i], results[2*i+1])
		}
	}
}

// decoded are calls that bytes stand for, three bytes each.
func decoded(b []byte) []call {
	kinds := []string{"Append", "Append", "Sync", "Rename", "Remove", "Cut", "Read", "Size", "Fuse", "Crash"}
	var l []call
	for ; len(b) >= 3; b = b[3:] {
		of := names()
		c := call{name: kinds[int(b[0])%len(kinds)], a: of[int(b[1]%16)%len(of)], off: int(b[1]>>4) - 1, n: int(int8(b[2]))}
		switch c.name {
		case "Append":
			c.b = "0123456789abcdef"[:b[2]%17]
		case "Rename":
			c.b = of[int(b[2])%len(of)]
		case "Crash":
			c.kept = []int{int(int8(b[1])), int(int8(b[2]))}[:b[0]>>4%3]
		}
		l = append(l, c)
	}
	return l
}

func FuzzCalls(f *testing.F) {
	f.Add(10, []byte("\x00\x01\x02\x02\x01\x00\x00\x01\x01\x09\x00\x00"), 0, 0)
	f.Add(0, []byte("\x00\x03\x00\x08\x00\x01\x02\x03\x00\x02\x03\x00"), 1, -1)
	f.Fuzz(func(t *testing.T, room int, b []byte, k0, k1 int) {
		room = int(uint(room) % 100)
		d, p := same(t, room, decoded(b[:min(len(b), 600)]))
		afterCrash(t, d, p, []int{k0, k1})
	})
}
