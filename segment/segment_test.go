package segment_test

import (
	"fmt"
	"math"
	"math/rand/v2"
	"slices"
	"strings"
	"testing"

	"thwart/api"
	"thwart/disk"
	"thwart/frame"
	"thwart/hint"
	"thwart/record"
	"thwart/segment"
)

// plainOut follows the words: n is not in the range 0 to 999999.
func plainOut(n int) bool {
	return n < 0 || n > 999999
}

// plainName follows the words of Name and Hints.
func plainName(letter string, n int) string {
	if plainOut(n) {
		return ""
	}
	return fmt.Sprintf("%s%06d", letter, n)
}

// plainFile is a file's bytes, and whether it exists.
func plainFile(d *disk.Disk, name string) (string, bool) {
	size, err := d.Size(name)
	b, _ := d.Read(name, 0, size)
	return b, err == api.OK
}

func plainWrite(d *disk.Disk, n int, l []api.Rec) ([]hint.Entry, api.Errno) {
	if plainOut(n) {
		return nil, api.ErrArg
	}
	b, err := frame.Bytes(l...)
	if err != api.OK {
		return nil, err
	}
	old, _ := plainFile(d, plainName("s", n))
	if err := d.Append(plainName("s", n), b); err != api.OK {
		return nil, err
	}
	return plainEntries(len(old), l), api.OK
}

// plainEntries are those of a batch that begins at this place of its file.
func plainEntries(at int, l []api.Rec) []hint.Entry {
	b, _ := frame.Bytes(l...)
	off := at + len(b)
	var entries []hint.Entry
	for _, r := range slices.Backward(l) {
		one, _ := record.Bytes(r)
		off -= len(one)
		entries = append(entries, hint.Entry{Key: r.Key, Off: off, Len: len(one), Seq: r.Seq, Gone: r.Gone})
	}
	slices.Reverse(entries)
	return entries
}

func plainGet(d *disk.Disk, n int, e hint.Entry) (api.Rec, api.Errno) {
	if plainOut(n) {
		return api.Rec{}, api.ErrArg
	}
	b, ok := plainFile(d, plainName("s", n))
	if !ok {
		return api.Rec{}, api.ErrNone
	}
	return hint.At(b, e)
}

func plainLoad(d *disk.Disk, n int) ([]hint.Entry, api.Errno) {
	if plainOut(n) {
		return nil, api.ErrArg
	}
	b, ok := plainFile(d, plainName("s", n))
	if !ok {
		return nil, api.ErrNone
	}
	l, size := hint.Of(b)
	if size < len(b) {
		if err := d.Cut(plainName("s", n), size); err != api.OK {
			return nil, err
		}
	}
	return l, api.OK
}

func plainHint(d *disk.Disk, n int, l []hint.Entry) api.Errno {
	if plainOut(n) {
		return api.ErrArg
	}
	b, err := hint.Bytes(l)
	if err != api.OK {
		return err
	}
	if slices.Contains(d.List(), plainName("h", n)) {
		if err := d.Remove(plainName("h", n)); err != api.OK {
			return err
		}
	}
	if err := d.Append(plainName("h", n), b); err != api.OK {
		return err
	}
	return d.Sync(plainName("h", n))
}

func plainTold(d *disk.Disk, n int) ([]hint.Entry, api.Errno) {
	if plainOut(n) {
		return nil, api.ErrArg
	}
	b, ok := plainFile(d, plainName("h", n))
	if !ok {
		return nil, api.ErrNone
	}
	return hint.Read(b)
}

func plainSeal(d *disk.Disk, n int) api.Errno {
	l, err := plainLoad(d, n)
	if err != api.OK {
		return err
	}
	return plainHint(d, n, l)
}

func plainIndex(d *disk.Disk, n int) ([]hint.Entry, api.Errno) {
	if plainOut(n) {
		return nil, api.ErrArg
	}
	l, err := plainTold(d, n)
	if err == api.OK {
		return l, api.OK
	}
	return plainLoad(d, n)
}

// plainAll follows the words of All, with the numbers that the runs use.
func plainAll(d *disk.Disk) []int {
	var l []int
	for _, n := range numbers() {
		if !plainOut(n) && slices.Contains(d.List(), plainName("s", n)) {
			l = append(l, n)
		}
	}
	slices.Sort(l)
	return slices.Compact(l)
}

// call is one call of the package or of the disk, with its arguments; those that the function does not have are zero.
type call struct {
	kind, file, b string
	n             int
	records       []api.Rec
	entry         hint.Entry
	entries       []hint.Entry
	kept          []int
}

// on makes the call, and tells its results.
func (c call) on(d *disk.Disk) string {
	switch c.kind {
	case "Write":
		return list(segment.Write(d, c.n, c.records...))
	case "Load":
		return list(segment.Load(d, c.n))
	case "Told":
		return list(segment.Told(d, c.n))
	case "Index":
		return list(segment.Index(d, c.n))
	case "Get":
		return one(segment.Get(d, c.n, c.entry))
	case "Seal":
		return number(segment.Seal(d, c.n))
	case "Hint":
		return number(segment.Hint(d, c.n, c.entries))
	case "All":
		return fmt.Sprint(segment.All(d))
	default:
		return c.onDisk(d)
	}
}

// plain makes the call as the chapter's words have it.
func (c call) plain(d *disk.Disk) string {
	switch c.kind {
	case "Write":
		return list(plainWrite(d, c.n, c.records))
	case "Load":
		return list(plainLoad(d, c.n))
	case "Told":
		return list(plainTold(d, c.n))
	case "Index":
		return list(plainIndex(d, c.n))
	case "Get":
		return one(plainGet(d, c.n, c.entry))
	case "Seal":
		return number(plainSeal(d, c.n))
	case "Hint":
		return number(plainHint(d, c.n, c.entries))
	case "All":
		return fmt.Sprint(plainAll(d))
	default:
		return c.onDisk(d)
	}
}

// onDisk makes a call of the disk.
func (c call) onDisk(d *disk.Disk) string {
	switch c.kind {
	case "Append":
		return number(d.Append(c.file, c.b))
	case "Cut":
		return number(d.Cut(c.file, c.n))
	case "Sync":
		return number(d.Sync(c.file))
	case "Remove":
		return number(d.Remove(c.file))
	case "Rename":
		return number(d.Rename(c.file, c.b))
	case "Fuse":
		d.Fuse(c.n)
	case "Crash":
		d.Crash(c.kept)
	default:
		panic(c.kind)
	}
	return ""
}

// list, one and number tell results.
func list(l []hint.Entry, err api.Errno) string { return fmt.Sprintf("%+v %d", l, int(err)) }
func one(r api.Rec, err api.Errno) string       { return fmt.Sprintf("%+v %d", r, int(err)) }
func number(err api.Errno) string               { return fmt.Sprint(int(err)) }

// failed is what the call returns with this error.
func (c call) failed(err api.Errno) string {
	switch c.kind {
	case "Get":
		return one(api.Rec{}, err)
	case "Seal", "Hint":
		return number(err)
	default:
		return list(nil, err)
	}
}

// contents tells all files of a disk.
func contents(d *disk.Disk) string {
	var b strings.Builder
	fmt.Fprintf(&b, "left %d", d.Left())
	for _, name := range d.List() {
		all, _ := plainFile(d, name)
		fmt.Fprintf(&b, ", %q: %x", name, all)
	}
	return b.String()
}

// newDisk is a disk with power and without files.
func newDisk(t *testing.T, room int) *disk.Disk {
	t.Helper()
	d, err := disk.New(room)
	if err != api.OK {
		t.Fatalf("New(%d): %d", room, err)
	}
	return d
}

// with is a disk with room for more, and with files, all of whose bytes are durable.
func with(t *testing.T, files map[string]string) *disk.Disk {
	t.Helper()
	d := newDisk(t, 20000)
	for name, b := range files {
		appended(t, d, name, b)
		want(t, "Sync", d.Sync(name), api.OK)
	}
	return d
}

// appended puts b behind a file.
func appended(t *testing.T, d *disk.Disk, name, b string) {
	t.Helper()
	want(t, "Append", d.Append(name, b), api.OK)
}

// written writes a batch, and returns its entries.
func written(t *testing.T, d *disk.Disk, n int, l ...api.Rec) []hint.Entry {
	t.Helper()
	entries, err := segment.Write(d, n, l...)
	want(t, fmt.Sprintf("Write to %d", n), err, api.OK)
	return entries
}

// want complains about an error number that is another one.
func want(t *testing.T, what string, got, want api.Errno) {
	t.Helper()
	if got != want {
		t.Errorf("%s: %d, want %d", what, got, want)
	}
}

// wantFile complains if a file has other bytes.
func wantFile(t *testing.T, d *disk.Disk, name, b string) {
	t.Helper()
	if got, ok := plainFile(d, name); got != b || !ok {
		t.Errorf("%q has %x, %t; want %x", name, got, ok, b)
	}
}

// wantNone complains if there is a file of this name.
func wantNone(t *testing.T, d *disk.Disk, name string) {
	t.Helper()
	if b, ok := plainFile(d, name); ok {
		t.Errorf("%q has %x; want no file", name, b)
	}
}

// wantEntries complains about other entries, or an error.
func wantEntries(t *testing.T, what string, l []hint.Entry, err api.Errno, wanted []hint.Entry) {
	t.Helper()
	if !slices.Equal(l, wanted) || err != api.OK {
		t.Errorf("%s: %+v, %d; want %+v", what, l, err, wanted)
	}
}

// wantRecords complains if an entry does not give its record.
func wantRecords(t *testing.T, d *disk.Disk, n int, l []hint.Entry, records []api.Rec) {
	t.Helper()
	if len(l) != len(records) {
		t.Fatalf("%d entries, %d records", len(l), len(records))
	}
	for i, e := range l {
		if r, err := segment.Get(d, n, e); r != records[i] || err != api.OK {
			t.Errorf("Get(%d, %+v) = %+v, %d; want %+v", n, e, r, err, records[i])
		}
	}
}

// wantCall makes a call, and complains about other results, and about more or less calls of the disk that need power;
// behind it the disk is without power.
func wantCall(t *testing.T, d *disk.Disk, c call, result string, burned int) {
	t.Helper()
	const fuse = 50
	d.Fuse(fuse)
	if got := c.on(d); got != result {
		t.Errorf("%+v: %s, want %s", c, got, result)
	}
	left := 0
	for appendNothing(d) == api.OK {
		left++
	}
	if fuse-left != burned {
		t.Errorf("%+v: %d calls that need power, want %d", c, fuse-left, burned)
	}
}

// appendNothing creates a file without bytes, and leaves all others.
func appendNothing(d *disk.Disk) api.Errno {
	return d.Append("other", "")
}

// wantNoChange makes a call, and complains if it does not return that error, needs power, or changes something.
func wantNoChange(t *testing.T, d *disk.Disk, c call, err api.Errno) {
	t.Helper()
	appendNothing(d)
	before := contents(d)
	wantCall(t, d, c, c.failed(err), 0)
	if after := contents(d); after != before {
		t.Errorf("%+v changed %s to %s", c, before, after)
	}
}

// text is size bytes of many values.
func text(size int) string {
	b := make([]byte, size)
	for i := range b {
		b[i] = byte(i*37 + size)
	}
	return string(b)
}

// many are valid records of many kinds, each another one.
func many(size int) []api.Rec {
	l := make([]api.Rec, size)
	for i := range l {
		l[i] = api.Rec{Seq: uint64(i)*97 + 1, Key: text(i%40 + 1), Gone: i%3 == 2}
		if !l[i].Gone {
			l[i].Value = text(i * 13 % 301)
		}
	}
	return l
}

// put and gone are short records.
func put(seq uint64, key, value string) api.Rec { return api.Rec{Seq: seq, Key: key, Value: value} }
func gone(seq uint64, key string) api.Rec       { return api.Rec{Seq: seq, Key: key, Gone: true} }

// batches are of every size, and of the least and the greatest records.
func batches() [][]api.Rec {
	biggest := put(api.MostSeq, text(40), text(300))
	l := [][]api.Rec{
		{put(1, "a", "x")},
		{gone(2, "b"), put(1, "a", "x")},
		{put(1, "\x00", "")},
		{put(9, "k", "new"), put(9, "k", "new"), gone(8, "k")},
		{biggest},
		slices.Repeat([]api.Rec{biggest}, 16),
		slices.Repeat([]api.Rec{gone(api.MostSeq, text(40))}, 16),
		{put(3, "k", text(120)), gone(4, "k")},
	}
	for size := 1; size <= 16; size++ {
		l = append(l, many(size))
	}
	return l
}

// bytesOf is batches one behind the other.
func bytesOf(t *testing.T, l ...[]api.Rec) string {
	t.Helper()
	all := ""
	for _, batch := range l {
		b, err := frame.Bytes(batch...)
		want(t, "frame.Bytes", err, api.OK)
		all += b
	}
	return all
}

// indexOf is an index of entries.
func indexOf(t *testing.T, l []hint.Entry) string {
	t.Helper()
	b, err := hint.Bytes(l)
	want(t, "hint.Bytes", err, api.OK)
	return b
}

// outside are numbers that no segment has; some of them look right to a part of their bits.
func outside() []int {
	return []int{-1, -2, -7, -999999, -1000000, 1000000, 1000001, 9999999, 1 << 32, 1<<32 + 7, -1<<32 + 7, math.MinInt, math.MinInt + 7, math.MaxInt}
}

// inside are numbers that segments have.
func inside() []int {
	return []int{0, 1, 7, 9, 10, 99, 100, 12345, 99999, 100000, 499999, 500000, 999998, 999999}
}

// wrongRecords are not valid by one field alone.
func wrongRecords() []api.Rec {
	return []api.Rec{
		put(0, "k", "v"),
		put(api.MostSeq+1, "k", "v"),
		put(math.MaxUint64, "k", "v"),
		put(1, "", "v"),
		put(1, text(41), "v"),
		put(1, "k", text(301)),
		{Seq: 1, Key: "k", Value: "v", Gone: true},
		{},
	}
}

// wrongEntries are not valid by one field alone.
func wrongEntries() []hint.Entry {
	return []hint.Entry{
		{Key: "", Off: 5, Len: 5, Seq: 3},
		{Key: text(41), Off: 5, Len: 5, Seq: 3},
		{Key: "k", Off: -1, Len: 5, Seq: 3},
		{Key: "k", Off: api.MostFile + 1, Len: 5, Seq: 3},
		{Key: "k", Off: 5, Len: 0, Seq: 3},
		{Key: "k", Off: 5, Len: 401, Seq: 3},
		{Key: "k", Off: 5, Len: -5, Seq: 3},
		{Key: "k", Off: 5, Len: 5, Seq: 0},
		{Key: "k", Off: 5, Len: 5, Seq: api.MostSeq + 1},
		{},
	}
}

// noBatch are bytes that no batch begins with, to stand behind batches.
func noBatch(t *testing.T) map[string]string {
	t.Helper()
	whole := bytesOf(t, many(3))
	spoilt := []byte(whole)
	spoilt[len(spoilt)-1] ^= 1
	return map[string]string{
		"a length alone":             whole[:1],
		"a batch without its end":    whole[:len(whole)-1],
		"a batch with another byte":  string(spoilt),
		"a batch behind such a one":  string(spoilt) + whole,
		"a batch behind a zero byte": "\x00" + whole,
		"words":                      "torn",
		"a length of no number":      strings.Repeat("\xff", 12),
	}
}

// P8.1

func TestNamesAtTheEdges(t *testing.T) {
	for n, digits := range map[int]string{0: "000000", 1: "000001", 7: "000007", 10: "000010", 123456: "123456", 99999: "099999",
		100000: "100000", api.FirstFar: "500000", 999998: "999998", 999999: "999999"} {
		if name, hints := segment.Name(n), segment.Hints(n); name != "s"+digits || hints != "h"+digits {
			t.Errorf("%d: %q, %q; want %q", n, name, hints, digits)
		}
	}
	for _, n := range outside() {
		if name, hints := segment.Name(n), segment.Hints(n); name != "" || hints != "" {
			t.Errorf("%d: %q, %q; want none", n, name, hints)
		}
	}
}

func TestNamesAndNumbersOfAllSegments(t *testing.T) {
	for n := range 1000000 {
		name, digits := segment.Name(n), fmt.Sprintf("%06d", n)
		if name != "s"+digits || segment.Hints(n) != "h"+digits {
			t.Fatalf("%d: %q, %q", n, name, segment.Hints(n))
		}
		if got, ok := segment.Number(name); got != n || !ok {
			t.Fatalf("Number(%q) = %d, %t", name, got, ok)
		}
	}
}

func TestNumberOfOtherNames(t *testing.T) {
	for _, name := range []string{
		"", "s", "7", "s7", "s00007", "000007", "0000007", "s0000071", "s0000007", "s1000000", "s00000", "s000007 ", " s000007", "s000007\n", "ss000007", "s000007s000008",
		"h000007", "S000007", "t000007", "r000007", "x000007", "\x00000007", "ſ00007", "-000007", " 000007",
		"s+00007", "s-00007", "s-00000", "s+00000", "s 00007", "s00007 ", "s000 07", "s\t00007", "s0000a7", "s00000a", "sa00000", "s0x0007", "s1_0007", "s00000_",
		"s0000.7", "s0001e3", "s00,007", "s00000\x00", "s/00007", "s:00007", "s00000/", "s00000:", "s000７", "s0000٧", "s\xff\xff\xff\xff\xff\xff", "new", "manifest", segment.Hints(0), segment.Hints(999999), segment.Name(-1),
	} {
		if n, ok := segment.Number(name); n != 0 || ok {
			t.Errorf("Number(%q) = %d, %t; want none", name, n, ok)
		}
	}
}

func TestNumberWithEveryByteAtEveryPlace(t *testing.T) {
	for _, of := range []int{0, 7, 123456, 999999} {
		for i := range 7 {
			for c := range 256 {
				b := []byte(fmt.Sprintf("s%06d", of))
				b[i] = byte(c)
				wanted, right := 0, i == 0 && c == 's' || i > 0 && c >= '0' && c <= '9'
				if right {
					fmt.Sscan(strings.TrimLeft(string(b[1:6]), "0")+string(b[6:]), &wanted)
				}
				if n, ok := segment.Number(string(b)); n != wanted || ok != right {
					t.Errorf("Number(%q) = %d, %t; want %d, %t", b, n, ok, wanted, right)
				}
			}
		}
	}
}

// permutations are all orders of names.
func permutations(l []string) [][]string {
	if len(l) == 0 {
		return [][]string{nil}
	}
	var all [][]string
	for i, name := range l {
		rest := slices.Delete(slices.Clone(l), i, i+1)
		for _, p := range permutations(rest) {
			all = append(all, append([]string{name}, p...))
		}
	}
	return all
}

func TestAllInAnyOrderOfMaking(t *testing.T) {
	files := []string{"s000007", "s000010", "h000003", "s000000", "new", "s999999"}
	for _, order := range permutations(files) {
		d := newDisk(t, 100)
		for _, name := range order {
			appended(t, d, name, "")
		}
		if l := segment.All(d); !slices.Equal(l, []int{0, 7, 10, 999999}) {
			t.Errorf("%q: %d", order, l)
		}
	}
}

func TestAllOfSegmentsIndexesAndOtherFiles(t *testing.T) {
	d := newDisk(t, 100)
	if l := segment.All(d); len(l) != 0 {
		t.Errorf("%d on an empty disk", l)
	}
	for _, name := range []string{"h000001", "manifest", "new", "s", "s00001", "s0000010", "s+00001", "S000001", "s00001x", "t000001", "0000001"} {
		appended(t, d, name, "x")
		if l := segment.All(d); len(l) != 0 {
			t.Errorf("%d behind %q", l, name)
		}
	}
	for _, n := range inside() {
		appended(t, d, segment.Name(n), "")
		appended(t, d, segment.Hints(n/2), "")
	}
	if l := segment.All(d); !slices.Equal(l, inside()) {
		t.Errorf("%d, want %d", l, inside())
	}
}

func TestAllFollowsTheFiles(t *testing.T) {
	d := with(t, map[string]string{"s000003": "x", "s000001": "", "s000002": "y"})
	want(t, "Remove", d.Remove("s000002"), api.OK)
	want(t, "Rename", d.Rename("s000003", "s000000"), api.OK)
	want(t, "Rename", d.Rename("s000001", "old"), api.OK)
	if l := segment.All(d); !slices.Equal(l, []int{0}) {
		t.Error(l)
	}
	written(t, d, 5, put(1, "a", "x"))
	before := contents(d)
	d.Fuse(0)
	appendNothing(d)
	l := segment.All(d)
	if !slices.Equal(l, []int{0, 5}) || contents(d) != before {
		t.Errorf("%d without power, %s; before it %s", l, contents(d), before)
	}
	l[0] = 9
	if again := segment.All(d); !slices.Equal(again, []int{0, 5}) {
		t.Errorf("%d behind a change of the result", again)
	}
}

func TestAllOfManyFiles(t *testing.T) {
	d := newDisk(t, 0)
	var wanted []int
	for i := range 3000 {
		n := i * 7919 % 3000 * 333
		wanted = append(wanted, n)
		appended(t, d, segment.Name(n), "")
		appended(t, d, segment.Hints(i), "")
	}
	slices.Sort(wanted)
	if l := segment.All(d); !slices.Equal(l, wanted) {
		t.Errorf("%d numbers, want %d", len(l), len(wanted))
	}
}

// P8.2

func TestWriteWrittenOut(t *testing.T) {
	d := newDisk(t, 100)
	l, err := segment.Write(d, 7, put(1, "a", "x"))
	wantEntries(t, "the first batch", l, err, []hint.Entry{{Key: "a", Off: 5, Len: 5, Seq: 1}})
	l, err = segment.Write(d, 7, gone(2, "b"), put(1, "a", "x"))
	wantEntries(t, "the second batch", l, err, []hint.Entry{{Key: "b", Off: 15, Len: 3, Seq: 2, Gone: true}, {Key: "a", Off: 18, Len: 5, Seq: 1}})
	b, _ := plainFile(d, "s000007")
	if len(b) != 23 || b[0] != 9 || b[5:10] != "\x02\x01a\x01x" || b[10] != 12 || b[15:] != "\x05\x01b\x02\x01a\x01x" {
		t.Errorf("%x", b)
	}
	if l := d.List(); !slices.Equal(l, []string{"s000007"}) {
		t.Errorf("files %q", l)
	}
}

func TestWriteToEveryNumber(t *testing.T) {
	for _, n := range inside() {
		d := newDisk(t, 1000)
		wantEntries(t, segment.Name(n), written(t, d, n, many(2)...), api.OK, plainEntries(0, many(2)))
		wantFile(t, d, plainName("s", n), bytesOf(t, many(2)))
	}
	for _, n := range outside() {
		wantNoChange(t, newDisk(t, 1000), call{kind: "Write", n: n, records: many(2)}, api.ErrArg)
	}
}

func TestWriteOfManyBatches(t *testing.T) {
	d := newDisk(t, api.MostFile)
	all := ""
	for _, batch := range batches() {
		l, err := segment.Write(d, 3, batch...)
		wantEntries(t, fmt.Sprintf("%d records", len(batch)), l, err, plainEntries(len(all), batch))
		wantRecords(t, d, 3, l, batch)
		all += bytesOf(t, batch)
		wantFile(t, d, "s000003", all)
	}
}

func TestWriteBehindBytesThatAreThere(t *testing.T) {
	behind := noBatch(t)
	behind["nothing"], behind["one batch"], behind["a batch and no batch"] = "", bytesOf(t, many(2)), bytesOf(t, many(2))+"torn"
	for what, b := range behind {
		d := with(t, map[string]string{"s000007": b, "s000008": "other", "h000007": text(50)})
		l, err := segment.Write(d, 7, many(4)...)
		wantEntries(t, what, l, err, plainEntries(len(b), many(4)))
		wantRecords(t, d, 7, l, many(4))
		wantFile(t, d, "s000007", b+bytesOf(t, many(4)))
		wantFile(t, d, "s000008", "other")
		wantFile(t, d, "h000007", text(50))
	}
}

func TestWriteAtTheEndOfTheGreatestFile(t *testing.T) {
	d := newDisk(t, api.MostFile)
	batch := []api.Rec{put(1, "a", "x"), gone(2, "b")}
	size := len(bytesOf(t, batch))
	appended(t, d, "s000007", strings.Repeat("x", api.MostFile-size))
	l := written(t, d, 7, batch...)
	wantEntries(t, "the last batch", l, api.OK, plainEntries(api.MostFile-size, batch))
	wantRecords(t, d, 7, l, batch)
}

func TestWriteOfRecordsThatAreNoBatch(t *testing.T) {
	for _, there := range []map[string]string{nil, {"s000007": bytesOf(t, many(2))}} {
		for _, size := range []int{0, 17, 18, 300} {
			wantNoChange(t, with(t, there), call{kind: "Write", n: 7, records: many(size)}, api.ErrArg)
		}
		for _, r := range wrongRecords() {
			for _, size := range []int{1, 2, 16} {
				for i := range size {
					l := many(size)
					l[i] = r
					wantNoChange(t, with(t, there), call{kind: "Write", n: 7, records: l}, api.ErrArg)
				}
			}
		}
	}
}

func TestWriteWithoutRoom(t *testing.T) {
	for _, batch := range batches() {
		size := len(bytesOf(t, batch))
		for _, there := range []string{"", "x", bytesOf(t, many(2))} {
			c := call{kind: "Write", n: 7, records: batch}
			d := newDisk(t, len(there)+size)
			if there != "" {
				appended(t, d, "s000007", there)
			}
			wantCall(t, d, c, list(plainEntries(len(there), batch), api.OK), 1)
			d = newDisk(t, len(there)+size-1)
			if there != "" {
				appended(t, d, "s000007", there)
			}
			appendNothing(d)
			before := contents(d)
			wantCall(t, d, c, c.failed(api.ErrFull), 1)
			if contents(d) != before {
				t.Errorf("%s behind a Write without room, %s before it", contents(d), before)
			}
		}
	}
}

func TestWriteWithoutPower(t *testing.T) {
	for _, there := range []map[string]string{nil, {"s000007": bytesOf(t, many(2))}} {
		for _, fuse := range []int{0, 1} {
			d := with(t, there)
			d.Fuse(fuse)
			for range fuse {
				written(t, d, 8, many(1)...)
			}
			before := contents(d)
			for range 3 {
				if l, err := segment.Write(d, 7, many(2)...); len(l) != 0 || err != api.ErrDown {
					t.Errorf("%+v, %d", l, err)
				}
			}
			if contents(d) != before {
				t.Errorf("%s without power, %s before it", contents(d), before)
			}
			d.Crash(nil)
			wantEntries(t, "behind the crash", written(t, d, 7, many(2)...), api.OK, plainEntries(len(there["s000007"]), many(2)))
		}
	}
}

func TestWriteIsNotDurable(t *testing.T) {
	d := newDisk(t, 1000)
	written(t, d, 7, many(2)...)
	want(t, "Sync", d.Sync("s000007"), api.OK)
	written(t, d, 7, many(3)...)
	d.Crash(nil)
	wantFile(t, d, "s000007", bytesOf(t, many(2)))
}

func TestWriteLooksForItsErrorsInOrder(t *testing.T) {
	full := func() *disk.Disk {
		d := newDisk(t, 20)
		appended(t, d, "s000007", strings.Repeat("x", 20))
		return d
	}
	down := full()
	down.Fuse(0)
	appendNothing(down)
	for _, c := range []struct {
		d       *disk.Disk
		n       int
		records []api.Rec
		err     api.Errno
	}{
		{down, -1, nil, api.ErrArg}, {down, -1, many(1), api.ErrArg}, {full(), 1000000, many(1), api.ErrArg},
		{down, 7, nil, api.ErrArg}, {down, 7, many(17), api.ErrArg}, {full(), 7, nil, api.ErrArg}, {full(), 8, wrongRecords()[:1], api.ErrArg},
		{down, 7, many(1), api.ErrDown}, {down, 8, many(1), api.ErrDown}, {full(), 7, many(1), api.ErrFull}, {full(), 8, many(1), api.ErrFull},
	} {
		before := contents(c.d)
		if l, err := segment.Write(c.d, c.n, c.records...); len(l) != 0 || err != c.err {
			t.Errorf("Write(%d, %d records) = %+v, %d; want %d", c.n, len(c.records), l, err, c.err)
		}
		if contents(c.d) != before {
			t.Errorf("Write(%d, %d records) has changed something", c.n, len(c.records))
		}
	}
}

func TestWriteLeavesItsArguments(t *testing.T) {
	d := newDisk(t, 10000)
	records := many(5)
	l := written(t, d, 7, records...)
	if !slices.Equal(records, many(5)) {
		t.Error("the records are others")
	}
	for i := range records {
		records[i], l[i] = api.Rec{}, hint.Entry{}
	}
	loaded, err := segment.Load(d, 7)
	wantEntries(t, "Load behind changes", loaded, err, plainEntries(0, many(5)))
	wantEntries(t, "Write behind changes", written(t, d, 8, many(5)...), api.OK, plainEntries(0, many(5)))
}

func TestGetOfNumbersAndFilesThatAreNotThere(t *testing.T) {
	d := newDisk(t, 10000)
	l := written(t, d, 7, many(2)...)
	want(t, "Hint", segment.Hint(d, 8, l), api.OK)
	for _, e := range append(wrongEntries(), l...) {
		for _, n := range outside() {
			wantNoChange(t, d, call{kind: "Get", n: n, entry: e}, api.ErrArg)
			d.Crash([]int{1000, 1000, 1000})
		}
		for _, n := range []int{0, 6, 8, 70, 999999} {
			wantNoChange(t, d, call{kind: "Get", n: n, entry: e}, api.ErrNone)
			d.Crash([]int{1000, 1000, 1000})
		}
	}
}

func TestGetOfEntriesThatWriteLoadAndIndexReturned(t *testing.T) {
	d := newDisk(t, api.MostFile)
	var all []hint.Entry
	var records []api.Rec
	for _, batch := range batches() {
		all = append(all, written(t, d, 7, batch...)...)
		records = append(records, batch...)
	}
	wantRecords(t, d, 7, all, records)
	l, err := segment.Load(d, 7)
	wantEntries(t, "Load", l, err, all)
	wantRecords(t, d, 7, l, records)
	l, err = segment.Index(d, 7)
	wantEntries(t, "Index without an index file", l, err, all)
	want(t, "Seal", segment.Seal(d, 7), api.OK)
	l, err = segment.Index(d, 7)
	wantEntries(t, "Index with an index file", l, err, all)
	wantRecords(t, d, 7, l, records)
	appended(t, d, "s000007", "torn")
	d.Fuse(0)
	appendNothing(d)
	wantRecords(t, d, 7, l, records)
}

func TestGetOfEntriesThatDoNotFit(t *testing.T) {
	d := newDisk(t, 10000)
	e := written(t, d, 7, put(1, "a", "x"), gone(2, "b"), put(3, "c", text(100)))[0]
	written(t, d, 8, put(5, "a", "x"))
	for what, c := range map[string]struct {
		change func(*hint.Entry)
		err    api.Errno
	}{
		"another key":            {func(e *hint.Entry) { e.Key = "b" }, api.ErrForm},
		"another number":         {func(e *hint.Entry) { e.Seq = 2 }, api.ErrForm},
		"a deletion":             {func(e *hint.Entry) { e.Gone = true }, api.ErrForm},
		"a place ahead":          {func(e *hint.Entry) { e.Off-- }, api.ErrForm},
		"a place behind":         {func(e *hint.Entry) { e.Off++ }, api.ErrForm},
		"the place of another":   {func(e *hint.Entry) { e.Off += 5 }, api.ErrForm},
		"a byte less":            {func(e *hint.Entry) { e.Len-- }, api.ErrForm},
		"a byte more":            {func(e *hint.Entry) { e.Len++ }, api.ErrForm},
		"as long as the file":    {func(e *hint.Entry) { e.Off, e.Len = 0, 117 }, api.ErrForm},
		"a byte beyond the file": {func(e *hint.Entry) { e.Off, e.Len = 1, 117 }, api.ErrArg},
		"longer than the file":   {func(e *hint.Entry) { e.Off, e.Len = 0, 118 }, api.ErrArg},
		"behind the file":        {func(e *hint.Entry) { e.Off = 117 }, api.ErrArg},
		"far behind the file":    {func(e *hint.Entry) { e.Off = math.MaxInt - 2 }, api.ErrArg},
		"ahead of the file":      {func(e *hint.Entry) { e.Off = -5 }, api.ErrArg},
		"far ahead of the file":  {func(e *hint.Entry) { e.Off, e.Len = math.MinInt, math.MinInt }, api.ErrArg},
		"the greatest place":     {func(e *hint.Entry) { e.Off = api.MostFile }, api.ErrArg},
	} {
		other := e
		c.change(&other)
		if r, err := segment.Get(d, 7, other); r != (api.Rec{}) || err != c.err {
			t.Errorf("%s: %+v, %d; want %d", what, r, err, c.err)
		}
	}
	if size, _ := d.Size("s000007"); size != 117 {
		t.Errorf("the cases are of 117 bytes, the file has %d", size)
	}
	if r, err := segment.Get(d, 8, e); r != (api.Rec{}) || err != api.ErrForm {
		t.Errorf("of another segment: %+v, %d", r, err)
	}
}

func TestGetAtEveryPlace(t *testing.T) {
	d := newDisk(t, 200)
	l := written(t, d, 7, put(1, "a", "x"), gone(2, "b"))
	l = append(l, written(t, d, 7, put(300, "key", ""))...)
	l = append(l, hint.Entry{Key: text(41), Seq: 1}, hint.Entry{Key: "a"}, hint.Entry{Seq: 1})
	size, _ := d.Size("s000007")
	var places []int
	for i := -2; i <= size+2; i++ {
		places = append(places, i)
	}
	places = append(places, 399, 400, 401, api.MostFile, api.MostFile+1, math.MinInt, math.MaxInt-size, math.MaxInt)
	for _, e := range l {
		for _, e.Off = range places {
			for _, e.Len = range places {
				c := call{kind: "Get", n: 7, entry: e}
				if got, wanted := c.on(d), c.plain(d); got != wanted {
					t.Errorf("%+v: %s, want %s", e, got, wanted)
				}
			}
		}
	}
}

func TestGetOfAFileWithoutBytes(t *testing.T) {
	d := with(t, map[string]string{"s000007": ""})
	for _, e := range append(wrongEntries(), hint.Entry{Key: "k", Len: 1, Seq: 1}, hint.Entry{Key: "k", Off: 1, Len: 1, Seq: 1}) {
		if r, err := segment.Get(d, 7, e); r != (api.Rec{}) || err != api.ErrArg {
			t.Errorf("%+v: %+v, %d", e, r, err)
		}
	}
}

func TestGetNeedsNoPower(t *testing.T) {
	d := newDisk(t, 1000)
	l := written(t, d, 7, many(2)...)
	wantCall(t, d, call{kind: "Get", n: 7, entry: l[1]}, one(many(2)[1], api.OK), 0)
	wantRecords(t, d, 7, l, many(2))
}

// P8.3

func TestLoadOfNumbersAndFilesThatAreNotThere(t *testing.T) {
	files := map[string]string{"s000007": bytesOf(t, many(2)) + "torn", "h000008": indexOf(t, plainEntries(0, many(2)))}
	for _, n := range outside() {
		wantNoChange(t, with(t, files), call{kind: "Load", n: n}, api.ErrArg)
	}
	for _, n := range []int{0, 6, 8, 70, 999999} {
		wantNoChange(t, with(t, files), call{kind: "Load", n: n}, api.ErrNone)
	}
}

func TestLoadOfAWholeSegment(t *testing.T) {
	for _, n := range inside() {
		d := newDisk(t, api.MostFile)
		appended(t, d, segment.Name(n), "")
		wantCall(t, d, call{kind: "Load", n: n}, list(nil, api.OK), 0)
		d.Crash(nil)
		var all []hint.Entry
		for _, batch := range batches() {
			all = append(all, written(t, d, n, batch...)...)
		}
		appendNothing(d)
		before := contents(d)
		wantCall(t, d, call{kind: "Load", n: n}, list(all, api.OK), 0)
		if l, err := segment.Load(d, n); !slices.Equal(l, all) || err != api.OK {
			t.Errorf("%d: %d entries, %d without power", n, len(l), err)
		}
		if contents(d) != before {
			t.Errorf("%d: a whole segment is another one behind Load", n)
		}
	}
}

func TestLoadCutsWhatIsNoBatch(t *testing.T) {
	for _, ahead := range [][][]api.Rec{nil, {many(2)}, {many(3), many(1), many(16)}} {
		for what, b := range noBatch(t) {
			whole := bytesOf(t, ahead...)
			entries, _ := hint.Of(whole)
			d := with(t, map[string]string{"s000007": whole + b, "s000008": whole + b, "h000007": text(9)})
			wantCall(t, d, call{kind: "Load", n: 7}, list(entries, api.OK), 1)
			wantFile(t, d, "s000007", whole)
			wantFile(t, d, "s000008", whole+b)
			wantFile(t, d, "h000007", text(9))
			d.Crash(nil)
			wantFile(t, d, "s000007", whole)
			l := written(t, d, 7, many(5)...)
			wantEntries(t, what, l, api.OK, plainEntries(len(whole), many(5)))
			again, err := segment.Load(d, 7)
			wantEntries(t, what, again, err, append(entries, l...))
		}
	}
}

func TestLoadOfASegmentTornAtEveryPlace(t *testing.T) {
	parts := [][]api.Rec{many(1), {put(1, "a", "x")}, many(3)}
	whole := bytesOf(t, parts...)
	for size := range len(whole) + 1 {
		d := with(t, map[string]string{"s000007": whole[:size]})
		complete, entries := "", []hint.Entry(nil)
		for _, batch := range parts {
			if len(complete)+len(bytesOf(t, batch)) > size {
				break
			}
			entries = append(entries, plainEntries(len(complete), batch)...)
			complete += bytesOf(t, batch)
		}
		burned := 1
		if len(complete) == size {
			burned = 0
		}
		wantCall(t, d, call{kind: "Load", n: 7}, list(entries, api.OK), burned)
		wantFile(t, d, "s000007", complete)
	}
}

func TestLoadWithoutPower(t *testing.T) {
	whole := bytesOf(t, many(2))
	d := with(t, map[string]string{"s000007": whole + "torn", "s000008": whole, "s000009": ""})
	d.Fuse(0)
	before := contents(d)
	for range 2 {
		if l, err := segment.Load(d, 8); !slices.Equal(l, plainEntries(0, many(2))) || err != api.OK {
			t.Errorf("whole: %+v, %d", l, err)
		}
		if l, err := segment.Load(d, 9); len(l) != 0 || err != api.OK {
			t.Errorf("without bytes: %+v, %d", l, err)
		}
		if l, err := segment.Load(d, 7); len(l) != 0 || err != api.ErrDown {
			t.Errorf("torn: %+v, %d", l, err)
		}
		if l, err := segment.Load(d, 6); len(l) != 0 || err != api.ErrNone {
			t.Errorf("none: %+v, %d", l, err)
		}
		if l, err := segment.Load(d, -1); len(l) != 0 || err != api.ErrArg {
			t.Errorf("no number: %+v, %d", l, err)
		}
	}
	if contents(d) != before {
		t.Errorf("%s, before it %s", contents(d), before)
	}
	d.Crash(nil)
	l, err := segment.Load(d, 7)
	wantEntries(t, "with power", l, err, plainEntries(0, many(2)))
	wantFile(t, d, "s000007", whole)
}

func TestLoadMakesNothingDurable(t *testing.T) {
	d := newDisk(t, 1000)
	written(t, d, 7, many(1)...)
	want(t, "Sync", d.Sync("s000007"), api.OK)
	written(t, d, 7, many(2)...)
	appended(t, d, "s000007", "torn")
	l, err := segment.Load(d, 7)
	wantEntries(t, "Load", l, err, append(plainEntries(0, many(1)), plainEntries(len(bytesOf(t, many(1))), many(2))...))
	d.Crash(nil)
	wantFile(t, d, "s000007", bytesOf(t, many(1)))
}

func TestResultsBelongToTheCaller(t *testing.T) {
	d := newDisk(t, 1000)
	wanted := written(t, d, 7, many(3)...)
	want(t, "Seal", segment.Seal(d, 7), api.OK)
	for _, f := range []func(*disk.Disk, int) ([]hint.Entry, api.Errno){segment.Load, segment.Told, segment.Index} {
		first, err := f(d, 7)
		wantEntries(t, "the first time", first, err, wanted)
		clear(first)
		again, err := f(d, 7)
		wantEntries(t, "behind a change of the result", again, err, wanted)
	}
}

// P8.4

func TestHintWrittenOut(t *testing.T) {
	d := newDisk(t, 100)
	want(t, "Hint", segment.Hint(d, 7, []hint.Entry{{Key: "a", Off: 5, Len: 5, Seq: 1}, {Key: "b", Off: 15, Len: 3, Seq: 2, Gone: true}}), api.OK)
	if b, _ := plainFile(d, "h000007"); len(b) != 15 || b[4:] != "\x02\x01a\x05\x0a\x01\x01b\x0f\x07\x02" {
		t.Errorf("%x", b)
	}
	if l := d.List(); !slices.Equal(l, []string{"h000007"}) {
		t.Errorf("files %q", l)
	}
}

func TestHintOfEveryNumber(t *testing.T) {
	l := plainEntries(0, many(3))
	for _, n := range inside() {
		d := newDisk(t, 1000)
		wantCall(t, d, call{kind: "Hint", n: n, entries: l}, number(api.OK), 2)
		wantFile(t, d, plainName("h", n), indexOf(t, l))
		wantNone(t, d, plainName("s", n))
		told, err := segment.Told(d, n)
		wantEntries(t, "Told", told, err, l)
	}
	for _, n := range outside() {
		for _, entries := range [][]hint.Entry{nil, l, wrongEntries()} {
			wantNoChange(t, newDisk(t, 1000), call{kind: "Hint", n: n, entries: entries}, api.ErrArg)
		}
	}
}

func TestHintInPlaceOfAnIndexFile(t *testing.T) {
	l := plainEntries(0, many(3))
	for what, old := range map[string]string{"none": "", "an index": indexOf(t, plainEntries(9, many(5))), "the same": indexOf(t, l), "words": text(200)} {
		for _, entries := range [][]hint.Entry{nil, l[:1], l} {
			d := with(t, map[string]string{"h000007": old, "s000007": "s", "h000008": "h"})
			wantCall(t, d, call{kind: "Hint", n: 7, entries: entries}, number(api.OK), 3)
			wantFile(t, d, "h000007", indexOf(t, entries))
			wantFile(t, d, "s000007", "s")
			wantFile(t, d, "h000008", "h")
			told, err := segment.Told(d, 7)
			wantEntries(t, what, told, err, entries)
			d.Crash(nil)
			wantFile(t, d, "h000007", indexOf(t, entries))
		}
	}
}

func TestHintOfEntriesThatAreNotValid(t *testing.T) {
	for _, there := range []map[string]string{nil, {"h000007": indexOf(t, plainEntries(0, many(2)))}} {
		for _, e := range wrongEntries() {
			for i := range 3 {
				l := plainEntries(0, many(3))
				l[i] = e
				wantNoChange(t, with(t, there), call{kind: "Hint", n: 7, entries: l}, api.ErrArg)
			}
		}
		l := slices.Repeat(plainEntries(0, many(1)), 2001)
		wantNoChange(t, with(t, there), call{kind: "Hint", n: 7, entries: l}, api.ErrArg)
		d := with(t, there)
		want(t, "Hint of 2000", segment.Hint(d, 7, l[:2000]), api.OK)
		told, err := segment.Told(d, 7)
		wantEntries(t, "2000", told, err, l[:2000])
	}
}

func TestHintWithoutRoom(t *testing.T) {
	l := plainEntries(0, many(3))
	b := indexOf(t, l)
	for _, old := range []string{"", "x", b, b + "x"} {
		for size := range len(b) + 1 {
			room := len("other") + max(size, len(old))
			d := newDisk(t, room)
			appended(t, d, "s000007", "other")
			appended(t, d, "h000007", old)
			err := segment.Hint(d, 7, l)
			if max(size, len(old)) >= len(b) {
				want(t, "with room", err, api.OK)
				wantFile(t, d, "h000007", b)
			} else {
				want(t, "without room", err, api.ErrFull)
				wantNone(t, d, "h000007")
			}
			wantFile(t, d, "s000007", "other")
		}
	}
}

func TestHintWithAFuseThatEndsAtEachOperation(t *testing.T) {
	l := plainEntries(0, many(3))
	b, old := indexOf(t, l), indexOf(t, plainEntries(0, many(2)))
	const none = "none"
	for _, c := range []struct {
		old          string
		fuse         int
		err          api.Errno
		after, crash string
	}{
		{none, 0, api.ErrDown, none, none},
		{none, 1, api.ErrDown, b, ""},
		{none, 2, api.OK, b, b},
		{old, 0, api.ErrDown, old, old},
		{old, 1, api.ErrDown, none, none},
		{old, 2, api.ErrDown, b, ""},
		{old, 3, api.OK, b, b},
	} {
		d := newDisk(t, 1000)
		if c.old != none {
			d = with(t, map[string]string{"h000007": c.old})
		}
		d.Fuse(c.fuse)
		want(t, fmt.Sprintf("fuse %d", c.fuse), segment.Hint(d, 7, l), c.err)
		for _, b := range []string{c.after, c.crash} {
			if b == none {
				wantNone(t, d, "h000007")
			} else {
				wantFile(t, d, "h000007", b)
			}
			d.Crash(nil)
		}
		want(t, "behind the crash", segment.Hint(d, 7, l), api.OK)
		wantFile(t, d, "h000007", b)
	}
}

func TestHintMakesOnlyTheIndexDurable(t *testing.T) {
	d := newDisk(t, 1000)
	l := written(t, d, 7, many(2)...)
	written(t, d, 8, many(2)...)
	want(t, "Hint", segment.Hint(d, 7, l), api.OK)
	d.Crash(nil)
	wantFile(t, d, "h000007", indexOf(t, l))
	wantFile(t, d, "s000007", "")
	wantFile(t, d, "s000008", "")
}

func TestHintLeavesItsArguments(t *testing.T) {
	d := newDisk(t, 1000)
	l := plainEntries(0, many(4))
	want(t, "Hint", segment.Hint(d, 7, l), api.OK)
	if !slices.Equal(l, plainEntries(0, many(4))) {
		t.Errorf("%+v", l)
	}
	clear(l)
	told, err := segment.Told(d, 7)
	wantEntries(t, "Told behind a change of the argument", told, err, plainEntries(0, many(4)))
}

func TestToldOfNumbersAndFilesThatAreNotThere(t *testing.T) {
	files := map[string]string{"h000007": indexOf(t, plainEntries(0, many(2))), "s000008": bytesOf(t, many(2))}
	for _, n := range outside() {
		wantNoChange(t, with(t, files), call{kind: "Told", n: n}, api.ErrArg)
	}
	for _, n := range []int{0, 6, 8, 70, 999999} {
		wantNoChange(t, with(t, files), call{kind: "Told", n: n}, api.ErrNone)
	}
	d := with(t, files)
	d.Fuse(0)
	appendNothing(d)
	told, err := segment.Told(d, 7)
	wantEntries(t, "without power", told, err, plainEntries(0, many(2)))
	wantCall(t, with(t, files), call{kind: "Told", n: 7}, list(plainEntries(0, many(2)), api.OK), 0)
}

// spoilt are bytes of an index file that are no index, and the errors of hint.Read.
func spoilt(t *testing.T, whole string) map[string]api.Errno {
	t.Helper()
	l := map[string]api.Errno{
		"": api.ErrSum, "abc": api.ErrSum, whole + "x": api.ErrSum, whole + whole: api.ErrSum, whole[1:]: api.ErrSum,
		"\x00\x00\x00\x00": api.ErrForm, // the right checksum of nothing
	}
	for i := range len(whole) {
		l[whole[:i]] = api.ErrSum
		b := []byte(whole)
		b[i] ^= 1
		l[string(b)] = api.ErrSum
	}
	return l
}

func TestToldOfASpoiltIndexFile(t *testing.T) {
	for b, err := range spoilt(t, indexOf(t, plainEntries(0, many(2)))) {
		d := with(t, map[string]string{"h000007": b, "s000007": bytesOf(t, many(2))})
		wantNoChange(t, d, call{kind: "Told", n: 7}, err)
	}
}

func TestSealOfNumbersAndFilesThatAreNotThere(t *testing.T) {
	files := map[string]string{"h000008": indexOf(t, plainEntries(0, many(2))), "s000007": bytesOf(t, many(2))}
	for _, n := range outside() {
		wantNoChange(t, with(t, files), call{kind: "Seal", n: n}, api.ErrArg)
	}
	for _, n := range []int{0, 6, 8, 70, 999999} {
		wantNoChange(t, with(t, files), call{kind: "Seal", n: n}, api.ErrNone)
	}
}

func TestSealWritesTheEntriesOfItsSegment(t *testing.T) {
	for _, n := range inside() {
		d := newDisk(t, 10000)
		l := written(t, d, n, many(4)...)
		l = append(l, written(t, d, n, many(2)...)...)
		b, _ := plainFile(d, plainName("s", n))
		wantCall(t, d, call{kind: "Seal", n: n}, number(api.OK), 2)
		wantFile(t, d, plainName("s", n), b)
		wantFile(t, d, plainName("h", n), indexOf(t, l))
		d.Crash([]int{0, 0, len(b)}) // of the index, of the file other, and of the segment
		wantFile(t, d, plainName("h", n), indexOf(t, l))
		wantFile(t, d, plainName("s", n), b)
		wantCall(t, d, call{kind: "Seal", n: n}, number(api.OK), 3)
		wantFile(t, d, plainName("h", n), indexOf(t, l))
	}
}

func TestSealOfASegmentWithoutBytes(t *testing.T) {
	d := with(t, map[string]string{"s000007": "", "h000007": text(20)})
	want(t, "Seal", segment.Seal(d, 7), api.OK)
	wantFile(t, d, "h000007", indexOf(t, nil))
	l, err := segment.Index(d, 7)
	wantEntries(t, "Index", l, err, nil)
}

func TestSealOfATornSegment(t *testing.T) {
	whole := bytesOf(t, many(3), many(1))
	entries, _ := hint.Of(whole)
	for what, b := range noBatch(t) {
		for _, there := range []bool{false, true} {
			files, burned := map[string]string{"s000007": whole + b}, 3
			if there {
				files["h000007"], burned = text(30), 4
			}
			d := with(t, files)
			wantCall(t, d, call{kind: "Seal", n: 7}, number(api.OK), burned)
			wantFile(t, d, "s000007", whole)
			l, err := segment.Told(d, 7)
			wantEntries(t, what, l, err, entries)
		}
	}
}

func TestSealWithAFuseThatEndsAtEachOperation(t *testing.T) {
	whole, old := bytesOf(t, many(3)), text(30)
	b := indexOf(t, plainEntries(0, many(3)))
	for fuse, c := range []struct {
		err            api.Errno
		segment, index string
	}{
		{api.ErrDown, whole + "torn", old}, {api.ErrDown, whole, old}, {api.ErrDown, whole, ""}, {api.ErrDown, whole, b}, {api.OK, whole, b}, {api.OK, whole, b},
	} {
		d := with(t, map[string]string{"s000007": whole + "torn", "h000007": old})
		d.Fuse(fuse)
		want(t, fmt.Sprintf("fuse %d", fuse), segment.Seal(d, 7), c.err)
		wantFile(t, d, "s000007", c.segment)
		if c.index == "" {
			wantNone(t, d, "h000007")
		} else {
			wantFile(t, d, "h000007", c.index)
		}
	}
}

func TestSealWithoutRoom(t *testing.T) {
	whole := bytesOf(t, many(3))
	d := newDisk(t, len(whole)+3)
	appended(t, d, "s000007", whole+"tor")
	want(t, "Seal", segment.Seal(d, 7), api.ErrFull)
	wantFile(t, d, "s000007", whole)
	wantNone(t, d, "h000007")
}

func TestSealOfMoreRecordsThanAnIndexHas(t *testing.T) {
	d := newDisk(t, api.MostFile)
	for range 125 {
		written(t, d, 7, many(16)...)
	}
	want(t, "Seal of 2000", segment.Seal(d, 7), api.OK)
	old, _ := plainFile(d, "h000007")
	written(t, d, 7, gone(1, "k"))
	appended(t, d, "s000007", "torn")
	wantCall(t, d, call{kind: "Seal", n: 7}, number(api.ErrArg), 1)
	wantFile(t, d, "h000007", old)
	if l, err := segment.Load(d, 7); len(l) != 2001 || err != api.OK {
		t.Errorf("%d entries, %d", len(l), err)
	}
	if l, err := segment.Index(d, 7); len(l) != 2000 || err != api.OK {
		t.Errorf("%d entries of the index before, %d", len(l), err)
	}
}

func TestIndexOfNumbersAndFilesThatAreNotThere(t *testing.T) {
	files := map[string]string{"h000007": indexOf(t, plainEntries(0, many(2))), "s000008": bytesOf(t, many(2))}
	for _, n := range outside() {
		wantNoChange(t, with(t, files), call{kind: "Index", n: n}, api.ErrArg)
	}
	for _, n := range []int{0, 6, 70, 999999} {
		wantNoChange(t, with(t, files), call{kind: "Index", n: n}, api.ErrNone)
	}
}

func TestIndexIsThatOfTheIndexFile(t *testing.T) {
	other := plainEntries(100, many(5))
	for what, files := range map[string]map[string]string{
		"without a segment file":         {},
		"with the segment":               {"s000007": bytesOf(t, many(2))},
		"with a torn segment":            {"s000007": bytesOf(t, many(2)) + "torn"},
		"with a segment without batches": {"s000007": "torn"},
	} {
		for _, entries := range [][]hint.Entry{nil, other} {
			files["h000007"] = indexOf(t, entries)
			d := with(t, files)
			appendNothing(d)
			before := contents(d)
			wantCall(t, d, call{kind: "Index", n: 7}, list(entries, api.OK), 0)
			l, err := segment.Index(d, 7)
			wantEntries(t, what+", without power", l, err, entries)
			if contents(d) != before {
				t.Errorf("%s: %s, before it %s", what, contents(d), before)
			}
		}
	}
}

func TestIndexWithoutAnIndexFileIsLoad(t *testing.T) {
	whole := bytesOf(t, many(2))
	d := with(t, map[string]string{"s000007": whole + "torn", "s000008": whole, "h000009": "x"})
	wantCall(t, d, call{kind: "Index", n: 8}, list(plainEntries(0, many(2)), api.OK), 0)
	if l, err := segment.Index(d, 7); len(l) != 0 || err != api.ErrDown {
		t.Errorf("%+v, %d of a torn segment without power", l, err)
	}
	wantFile(t, d, "s000007", whole+"torn")
	d.Crash(nil)
	wantCall(t, d, call{kind: "Index", n: 7}, list(plainEntries(0, many(2)), api.OK), 1)
	wantFile(t, d, "s000007", whole)
	for _, n := range []int{7, 8} {
		wantNone(t, d, segment.Hints(n))
	}
}

func TestIndexWithASpoiltIndexFileIsLoad(t *testing.T) {
	whole := bytesOf(t, many(2))
	for b := range spoilt(t, indexOf(t, plainEntries(50, many(2)))) {
		d := with(t, map[string]string{"h000007": b, "s000007": whole + "torn", "h000008": b})
		wantCall(t, d, call{kind: "Index", n: 7}, list(plainEntries(0, many(2)), api.OK), 1)
		wantFile(t, d, "s000007", whole)
		wantFile(t, d, "h000007", b)
		if l, err := segment.Index(d, 7); !slices.Equal(l, plainEntries(0, many(2))) || err != api.OK {
			t.Errorf("%x: %+v, %d without power", b, l, err)
		}
		if l, err := segment.Index(d, 8); len(l) != 0 || err != api.ErrNone {
			t.Errorf("%x: %+v, %d without a segment file", b, l, err)
		}
		d = with(t, map[string]string{"h000007": b, "s000007": whole + "torn"})
		d.Fuse(0)
		if l, err := segment.Index(d, 7); len(l) != 0 || err != api.ErrDown {
			t.Errorf("%x: %+v, %d of a torn segment without power", b, l, err)
		}
		wantFile(t, d, "s000007", whole+"torn")
	}
}

func TestErrorsInOrderWithoutPower(t *testing.T) {
	whole := bytesOf(t, many(2))
	d := with(t, map[string]string{"s000007": whole + "torn", "s000008": whole, "h000008": text(30)})
	d.Fuse(0)
	appendNothing(d)
	before := contents(d)
	for _, c := range []struct {
		call
		err api.Errno
	}{
		{call{kind: "Hint", n: -1, entries: wrongEntries()}, api.ErrArg},
		{call{kind: "Hint", n: -1}, api.ErrArg},
		{call{kind: "Hint", n: 7, entries: wrongEntries()}, api.ErrArg},
		{call{kind: "Hint", n: 7}, api.ErrDown},
		{call{kind: "Hint", n: 8}, api.ErrDown},
		{call{kind: "Seal", n: 1000000}, api.ErrArg},
		{call{kind: "Seal", n: 6}, api.ErrNone},
		{call{kind: "Seal", n: 7}, api.ErrDown},
		{call{kind: "Seal", n: 8}, api.ErrDown},
		{call{kind: "Told", n: -1}, api.ErrArg},
		{call{kind: "Told", n: 7}, api.ErrNone},
		{call{kind: "Told", n: 8}, api.ErrSum},
		{call{kind: "Index", n: -1}, api.ErrArg},
		{call{kind: "Index", n: 6}, api.ErrNone},
		{call{kind: "Index", n: 7}, api.ErrDown},
		{call{kind: "Get", n: -1, entry: wrongEntries()[0]}, api.ErrArg},
		{call{kind: "Get", n: 6, entry: wrongEntries()[0]}, api.ErrNone},
		{call{kind: "Get", n: 7, entry: wrongEntries()[0]}, api.ErrArg},
	} {
		if got := c.on(d); got != c.failed(c.err) {
			t.Errorf("%+v: %s, want %d", c.call, got, int(c.err))
		}
	}
	if contents(d) != before {
		t.Errorf("%s, before it %s", contents(d), before)
	}
}

func TestHintWithoutRoomAndWithoutPower(t *testing.T) {
	d := newDisk(t, 10)
	appended(t, d, "s000007", text(10))
	want(t, "without room", segment.Hint(d, 7, nil), api.ErrFull)
	wantNone(t, d, "h000007")
	d.Fuse(0)
	want(t, "without room and power", segment.Hint(d, 7, nil), api.ErrDown)
	d = newDisk(t, 4)
	appended(t, d, "h000007", "")
	d.Fuse(1)
	want(t, "with power for the first operation", segment.Hint(d, 7, nil), api.ErrDown)
	wantNone(t, d, "h000007")
}

// P8.5, and all promises together

// writes are batches of a run, and how many of them are synchronized.
type writes struct {
	batches [][]api.Rec
	synced  int
}

// on makes the writes to segment 7 of a new disk, and returns the ends of the batches, and what the Writes returned.
func (w writes) on(t *testing.T) (*disk.Disk, []int, []hint.Entry) {
	t.Helper()
	d := newDisk(t, api.MostFile)
	appended(t, d, "s000007", "")
	ends, entries := []int{0}, []hint.Entry(nil)
	for i, batch := range w.batches {
		if i == w.synced {
			want(t, "Sync", d.Sync("s000007"), api.OK)
		}
		entries = append(entries, written(t, d, 7, batch...)...)
		size, _ := d.Size("s000007")
		ends = append(ends, size)
	}
	if w.synced == len(w.batches) {
		want(t, "Sync", d.Sync("s000007"), api.OK)
	}
	return d, ends, entries
}

// afterCrash crashes behind the writes, keeps so many bytes, and complains if other batches than the complete ones are there.
func (w writes) afterCrash(t *testing.T, kept int) {
	t.Helper()
	d, ends, entries := w.on(t)
	durable := ends[w.synced]
	d.Crash([]int{kept})
	size := durable + min(max(kept, 0), ends[len(ends)-1]-durable)
	complete := 0
	for complete+1 < len(ends) && ends[complete+1] <= size {
		complete++
	}
	records := slices.Concat(w.batches[:complete]...)
	l, err := segment.Load(d, 7)
	wantEntries(t, fmt.Sprintf("%d of %d bytes kept", size, ends), l, err, entries[:len(records)])
	wantRecords(t, d, 7, l, records)
	if n, _ := d.Size("s000007"); n != ends[complete] {
		t.Errorf("%d bytes of %d behind Load, want %d", n, size, ends[complete])
	}
	w.continued(t, d, l, records)
}

// continued writes one batch more behind a crash, seals the segment, and crashes again.
func (w writes) continued(t *testing.T, d *disk.Disk, l []hint.Entry, records []api.Rec) {
	t.Helper()
	l, records = append(l, written(t, d, 7, many(2)...)...), append(slices.Clone(records), many(2)...)
	want(t, "Sync", d.Sync("s000007"), api.OK)
	want(t, "Seal", segment.Seal(d, 7), api.OK)
	d.Crash(nil)
	for _, f := range []func(*disk.Disk, int) ([]hint.Entry, api.Errno){segment.Index, segment.Told, segment.Load} {
		again, err := f(d, 7)
		wantEntries(t, "behind the second crash", again, err, l)
		wantRecords(t, d, 7, again, records)
	}
}

// anyBatch is of short records, so that many of them have room.
func anyBatch(r *rand.Rand) []api.Rec {
	var l []api.Rec
	for range 1 + r.IntN(4) {
		rec := api.Rec{Seq: r.Uint64N(300) + 1, Key: text(1 + r.IntN(3)), Gone: r.IntN(3) == 0}
		if !rec.Gone {
			rec.Value = text(r.IntN(12))
		}
		l = append(l, rec)
	}
	return l
}

func TestCrashesThatKeepEachNumberOfBytes(t *testing.T) {
	r := rand.New(rand.NewPCG(1, 2))
	for run := range 12 {
		var w writes
		for range run {
			w.batches = append(w.batches, anyBatch(r))
		}
		for w.synced = 0; w.synced <= len(w.batches); w.synced += 1 + r.IntN(3) {
			_, ends, _ := w.on(t)
			last := ends[len(ends)-1] - ends[w.synced]
			for kept := -1; kept <= last+1; kept++ {
				w.afterCrash(t, kept)
			}
		}
	}
}

func TestCrashesBehindALongRun(t *testing.T) {
	w := writes{batches: batches(), synced: 3}
	_, ends, _ := w.on(t)
	for _, end := range ends {
		for _, near := range []int{-2, -1, 0, 1, 2, 6} {
			w.afterCrash(t, end-ends[w.synced]+near)
		}
	}
}

func TestIndexOfASealedSegmentIsLoad(t *testing.T) {
	d := newDisk(t, api.MostFile)
	var records []api.Rec
	for i, batch := range batches() {
		written(t, d, 7, batch...)
		records = append(records, batch...)
		if i%2 == 0 {
			appended(t, d, "s000007", "torn")
		}
		want(t, "Seal", segment.Seal(d, 7), api.OK)
		index, err := segment.Index(d, 7)
		loaded, err2 := segment.Load(d, 7)
		if !slices.Equal(index, loaded) || err != api.OK || err2 != api.OK {
			t.Fatalf("%d batches: %d and %d entries, %d, %d", i+1, len(index), len(loaded), err, err2)
		}
		wantRecords(t, d, 7, index, records)
	}
}

func TestTornIndexBehindACrash(t *testing.T) {
	l := plainEntries(0, many(3))
	b := indexOf(t, l)
	for kept := range len(b) + 1 {
		d := with(t, map[string]string{"s000007": bytesOf(t, many(3)), "h000007": text(40)})
		d.Fuse(2) // Remove and Append, but not Sync
		want(t, "Hint", segment.Hint(d, 7, l), api.ErrDown)
		d.Crash([]int{kept})
		wantFile(t, d, "h000007", b[:kept])
		index, err := segment.Index(d, 7)
		wantEntries(t, fmt.Sprintf("%d bytes of the index", kept), index, err, l)
	}
}

// numbers are those that the runs use.
func numbers() []int {
	return []int{0, 7, 8, 999999, -1, 1000000}
}

// anyNumber is mostly one that a segment has.
func anyNumber(r *rand.Rand) int {
	l := numbers()
	if r.IntN(10) == 0 {
		return l[r.IntN(len(l))]
	}
	return l[r.IntN(3)]
}

// anyFile is a segment's file, an index file or another one.
func anyFile(r *rand.Rand) string {
	name := plainName([]string{"s", "h", "t"}[r.IntN(5)%3], anyNumber(r))
	if r.IntN(10) == 0 {
		return name[:len(name)/2]
	}
	return name
}

// anyEntry is one of those that were in a segment once, or a changed one.
func anyEntry(r *rand.Rand, seen []hint.Entry) hint.Entry {
	if len(seen) == 0 {
		return hint.Entry{Key: "k", Off: 5, Len: 5, Seq: 3}
	}
	e := seen[r.IntN(len(seen))]
	switch r.IntN(12) {
	case 0:
		e.Off += r.IntN(9) - 4
	case 1:
		e.Len += r.IntN(9) - 4
	case 2:
		e.Seq--
	case 3:
		e.Key += "k"
	case 4:
		e.Gone = !e.Gone
	case 5:
		e.Off = []int{math.MinInt, math.MaxInt, -1, api.MostFile}[r.IntN(4)]
	}
	return e
}

// anyCall is one of all calls, most of them without an error.
func anyCall(r *rand.Rand, seen map[int][]hint.Entry) call {
	n := anyNumber(r)
	switch k := r.IntN(48); {
	case k < 14:
		return call{kind: "Write", n: n, records: anyBatch(r)}
	case k < 15:
		return call{kind: "Write", n: n, records: append(anyBatch(r), wrongRecords()[r.IntN(8)])}
	case k < 22:
		return call{kind: "Get", n: n, entry: anyEntry(r, seen[n])}
	case k < 25:
		return call{kind: "Load", n: n}
	case k < 28:
		return call{kind: "Seal", n: n}
	case k < 31:
		return call{kind: "Index", n: n}
	case k < 33:
		return call{kind: "Told", n: n}
	case k < 35:
		return call{kind: "Hint", n: n, entries: []hint.Entry{anyEntry(r, seen[n]), anyEntry(r, seen[n])}[:r.IntN(3)]}
	case k < 37:
		return call{kind: "All"}
	default:
		return anyDiskCall(r)
	}
}

// anyDiskCall is a call of the disk, by which files are spoilt, durable, or gone.
func anyDiskCall(r *rand.Rand) call {
	c := call{file: anyFile(r), n: r.IntN(60)}
	switch k := r.IntN(16); {
	case k < 3:
		c.kind, c.b = "Append", text(r.IntN(9))
	case k < 5:
		c.kind = "Cut"
	case k < 9:
		c.kind = "Sync"
	case k < 10:
		c.kind = "Remove"
	case k < 11:
		c.kind, c.b = "Rename", anyFile(r)
	case k < 12:
		c.kind, c.n = "Fuse", r.IntN(6)
	default:
		c.kind = "Crash"
		for range r.IntN(5) {
			c.kept = append(c.kept, r.IntN(60)-2)
		}
	}
	return c
}

// same makes a call on a disk and by the chapter's words on another one, and complains if they differ.
func same(t *testing.T, d, p *disk.Disk, l []call) {
	t.Helper()
	c := l[len(l)-1]
	got, wanted := c.on(d), c.plain(p)
	if got != wanted {
		t.Fatalf("the last one of %+v: %s, want %s", l, got, wanted)
	}
	if got, wanted := contents(d), contents(p); got != wanted {
		t.Fatalf("behind %+v: %s; want %s", l, got, wanted)
	}
}

func TestRunsOfCalls(t *testing.T) {
	r := rand.New(rand.NewPCG(3, 4))
	for range 600 {
		room := 1 + r.IntN(800)
		d, p := newDisk(t, room), newDisk(t, room)
		var l []call
		seen := map[int][]hint.Entry{}
		for range 120 {
			c := anyCall(r, seen)
			l = append(l, c)
			same(t, d, p, l)
			if c.kind == "Write" {
				b, _ := plainFile(d, plainName("s", c.n))
				more, _ := hint.Of(b)
				seen[c.n] = more
			}
		}
		d.Crash([]int{30, 0, 7})
		p.Crash([]int{30, 0, 7})
		if got, wanted := contents(d), contents(p); got != wanted {
			t.Fatalf("behind a crash at the end of %+v: %s; want %s", l, got, wanted)
		}
	}
}

func FuzzBytes(f *testing.F) {
	b, _ := frame.Bytes(many(2)...)
	index, _ := hint.Bytes(plainEntries(0, many(2)))
	f.Add(b, index, 0, 0, 0)
	f.Add(b+b[:9], index[:9], 2, 6, 3)
	f.Add("", "x", 1, 5, 5)
	f.Fuzz(func(t *testing.T, b, index string, fuse, off, size int) {
		d, p := newDisk(t, 10000), newDisk(t, 10000)
		for _, both := range []*disk.Disk{d, p} {
			both.Append("s000007", b[:min(len(b), 3000)])
			both.Append("h000007", index[:min(len(index), 3000)])
			both.Fuse(fuse)
		}
		var l []call
		for _, kind := range []string{"Told", "Get", "Index", "Load", "Write", "Get", "Seal", "Told", "Index", "Load"} {
			l = append(l, call{kind: kind, n: 7, records: many(3), entry: hint.Entry{Key: many(1)[0].Key, Off: off, Len: size, Seq: 1}})
			same(t, d, p, l)
		}
	})
}
