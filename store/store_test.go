package store_test

import (
	"fmt"
	"math"
	"slices"
	"strings"
	"testing"

	"thwart/api"
	"thwart/crc"
	"thwart/disk"
	"thwart/frame"
	"thwart/hint"
	"thwart/segment"
	"thwart/store"
	"thwart/varint"
)

// roomy is the most that a disk has room for, and the most that a segment may have before a Write begins another one.
const roomy = 1 << 20

// opened is store.Open, with no keeper at all where there is no store.
func opened(d *disk.Disk, most int, far []int) (keeper, api.Errno) {
	s, err := store.Open(d, most, far)
	if s == nil {
		return nil, err
	}
	return s, err
}

// newDisk is a disk with power and without files.
func newDisk(t *testing.T, room int) *disk.Disk {
	t.Helper()
	d, err := disk.New(room)
	if err != api.OK {
		t.Fatalf("New(%d): %d", room, err)
	}
	return d
}

// openOn opens the store of a disk, which must go well.
func openOn(t *testing.T, d *disk.Disk, most int, far ...int) *store.Store {
	t.Helper()
	s, err := store.Open(d, most, far)
	if s == nil || err != api.OK {
		t.Fatalf("Open with %d, %v: %v, %d", most, far, s, err)
	}
	return s
}

// put, gone and numbered make records.
func put(key, value string) api.Rec               { return api.Rec{Key: key, Value: value} }
func gone(key string) api.Rec                     { return api.Rec{Key: key, Gone: true} }
func numbered(seq uint64, r api.Rec) api.Rec      { r.Seq = seq; return r }
func numberedPut(seq uint64, k, v string) api.Rec { return numbered(seq, put(k, v)) }
func numberedGone(seq uint64, key string) api.Rec { return numbered(seq, gone(key)) }
func size(t *testing.T, l ...api.Rec) int         { t.Helper(); return len(batch(t, l...)) }
func wantErr(t *testing.T, what string, got, want api.Errno) {
	t.Helper()
	if got != want {
		t.Errorf("%s: %d, want %d", what, got, want)
	}
}

// batch is that of records, as bytes.
func batch(t *testing.T, l ...api.Rec) string {
	t.Helper()
	b, err := frame.Bytes(l...)
	wantErr(t, "Bytes", err, api.OK)
	return b
}

// spoilt has another last byte.
func spoilt(b string) string {
	return b[:len(b)-1] + string(b[len(b)-1]^1)
}

// laid appends a batch to a segment of a disk.
func laid(t *testing.T, d *disk.Disk, n int, l ...api.Rec) []hint.Entry {
	t.Helper()
	entries, err := segment.Write(d, n, l...)
	wantErr(t, fmt.Sprint("segment.Write to ", n), err, api.OK)
	return entries
}

// appended puts bytes behind a file.
func appended(t *testing.T, d *disk.Disk, name, b string) {
	t.Helper()
	wantErr(t, "Append", d.Append(name, b), api.OK)
}

// evicted takes the file of a segment away, but leaves an index file of it. It returns the file's bytes.
func evicted(t *testing.T, d *disk.Disk, n int) string {
	t.Helper()
	b, _ := bytesOf(d, file(n))
	wantErr(t, "Seal", segment.Seal(d, n), api.OK)
	wantErr(t, "Remove", d.Remove(file(n)), api.OK)
	return b
}

// far lays a segment of which only the index file stays.
func far(t *testing.T, d *disk.Disk, n int, l ...api.Rec) []hint.Entry {
	t.Helper()
	entries := laid(t, d, n, l...)
	evicted(t, d, n)
	return entries
}

// written writes a batch, which must go well.
func written(t *testing.T, s *store.Store, l ...api.Rec) {
	t.Helper()
	wantErr(t, fmt.Sprintf("Write %+v", l), s.Write(l), api.OK)
}

// wantLive complains if not exactly these records are those of the live keys, or one of them has no file; they have the order of their keys.
func wantLive(t *testing.T, s keeper, l ...api.Rec) {
	t.Helper()
	wantNumber(t, "Len", s.Len(), len(l))
	got, err := s.Scan("", 1000000)
	if !slices.Equal(got, l) || err != api.OK {
		same := 0
		for same < min(len(got), len(l)) && got[same] == l[same] {
			same++
		}
		t.Errorf("Scan: %d, and %d records, %d of which are the same, and then %+v; want %d, and then %+v", err, len(got), same, got[same:min(len(got), same+1)], len(l), l[same:min(len(l), same+1)])
	}
	var keys []string
	for _, r := range l {
		keys = append(keys, r.Key)
		wantGet(t, s, r.Key, r.Value, api.OK)
		if l, ok := s.Where(r.Key); l.Seq != r.Seq || !ok {
			t.Errorf("Where(%q): %+v, %t; want number %d", r.Key, l, ok, r.Seq)
		}
	}
	wantKeys(t, "all keys", s.Keys("", 1000000), keys...)
}

func wantNumber(t *testing.T, what string, got, want int) {
	t.Helper()
	if got != want {
		t.Errorf("%s: %d, want %d", what, got, want)
	}
}

func wantGet(t *testing.T, s keeper, key, value string, err api.Errno) {
	t.Helper()
	if v, wrong := s.Get(key); v != value || wrong != err {
		t.Errorf("Get(%q): %q, %d; want %q, %d", key, v, wrong, value, err)
	}
}

func wantKeys(t *testing.T, what string, got []string, want ...string) {
	t.Helper()
	if !slices.Equal(got, want) {
		t.Errorf("%s: %q, want %q", what, got, want)
	}
}

func wantWhere(t *testing.T, s keeper, key string, want api.Loc) {
	t.Helper()
	if l, ok := s.Where(key); l != want || !ok {
		t.Errorf("Where(%q): %+v, %t; want %+v", key, l, ok, want)
	}
}

// wantNone complains if a key is live.
func wantNone(t *testing.T, s keeper, key string) {
	t.Helper()
	wantGet(t, s, key, "", api.ErrNone)
	if l, ok := s.Where(key); l != (api.Loc{}) || ok {
		t.Errorf("Where(%q): %+v, %t; want none", key, l, ok)
	}
}

func wantSegments(t *testing.T, s keeper, l ...int) {
	t.Helper()
	if got := s.Segments(); !slices.Equal(got, l) {
		t.Errorf("Segments: %v, want %v", got, l)
	}
}

// wantFiles complains if a disk has other files.
func wantFiles(t *testing.T, d *disk.Disk, names ...string) {
	t.Helper()
	if l := d.List(); !slices.Equal(l, names) {
		t.Errorf("files %q, want %q", l, names)
	}
}

// wantNext complains if the next write gets another number.
func wantNext(t *testing.T, s *store.Store, seq uint64) {
	t.Helper()
	written(t, s, put("~next", ""))
	if l, _ := s.Where("~next"); l.Seq != seq {
		t.Errorf("the next write got %d, want %d", l.Seq, seq)
	}
}

// wantSame complains if a call changes what later calls can tell, or a file.
func wantSame(t *testing.T, what string, d *disk.Disk, s keeper, call func()) {
	t.Helper()
	before, filesBefore := reads(s), files(d)
	call()
	wantText(t, what, reads(s), before)
	wantText(t, what, files(d), filesBefore)
}

// wantText complains about another text, and shows the first line that is another one.
func wantText(t *testing.T, what, got, want string) {
	t.Helper()
	if got == want {
		return
	}
	l, wanted := strings.Split(got, "\n"), strings.Split(want, "\n")
	i := 0
	for i < min(len(l), len(wanted))-1 && l[i] == wanted[i] {
		i++
	}
	t.Errorf("%s: %s; want %s", what, l[i], wanted[i])
}

// durable complains if not all bytes of all files survive a crash.
func wantDurable(t *testing.T, d *disk.Disk) {
	t.Helper()
	before := files(d)
	d.Crash(nil)
	wantText(t, "behind a crash", files(d), before)
}

// burned counts the calls of a disk that need power, which call makes. Behind it there is power.
func burned(t *testing.T, d *disk.Disk, call func()) int {
	t.Helper()
	const fuse = 1000
	d.Fuse(fuse)
	call()
	count := fuse
	for d.Append("other", "") == api.OK {
		count--
	}
	d.Crash(slices.Repeat([]int{roomy}, len(d.List())))
	wantErr(t, "Remove", d.Remove("other"), api.OK)
	return count
}

func TestExample(t *testing.T) {
	s := openOn(t, newDisk(t, 1000), 100)
	written(t, s, put("a", "x"))
	wantGet(t, s, "a", "x", api.OK)
	written(t, s, gone("a"))
	wantGet(t, s, "a", "", api.ErrNone)
}

// P16.1: Open.

// wantRefused complains if Open does not return that error, or changes a file.
func wantRefused(t *testing.T, d *disk.Disk, most int, l []int, want api.Errno) {
	t.Helper()
	before := ""
	if d != nil {
		before = files(d)
	}
	s, err := store.Open(d, most, l)
	if s != nil || err != want {
		t.Errorf("Open with %d, %v: %v, %d; want %d", most, l, s, err, want)
	}
	if d != nil {
		wantText(t, fmt.Sprintf("behind Open with %d, %v", most, l), files(d), before)
	}
}

func TestOpenRefusesArguments(t *testing.T) {
	d := newDisk(t, 1000)
	far(t, d, 0, numberedPut(1, "a", "x"))
	laid(t, d, 5, numberedPut(2, "b", "y"))
	// Open would cut this off, if it came so far.
	appended(t, d, file(5), "torn")
	wantRefused(t, nil, 100, nil, api.ErrArg)
	wantRefused(t, nil, 0, []int{-1}, api.ErrArg)
	for _, most := range []int{math.MinInt, -1 << 20, -1, 0, 1<<20 + 1, 1 << 21, math.MaxInt} {
		wantRefused(t, d, most, nil, api.ErrArg)
		wantRefused(t, d, most, []int{0}, api.ErrArg)
	}
	for _, n := range []int{math.MinInt, -1000000, -1, 1000000, math.MaxInt, 5} {
		wantRefused(t, d, 100, []int{n}, api.ErrArg)
		wantRefused(t, d, 100, []int{n, 0}, api.ErrArg)
		wantRefused(t, d, 100, []int{0, 0, n}, api.ErrArg)
		// There is no index file of 7: that would be another error.
		wantRefused(t, d, 100, []int{7, n}, api.ErrArg)
	}
}

func TestOpenRefusesAnEmptyFileToo(t *testing.T) {
	d := newDisk(t, 1000)
	far(t, d, 4, numberedPut(1, "a", "x"))
	appended(t, d, file(4), "")
	wantRefused(t, d, 100, []int{4}, api.ErrArg)
	openOn(t, d, 100)
}

func TestOpenTakesTheEdges(t *testing.T) {
	for _, most := range []int{1, 2, 1<<20 - 1, 1 << 20} {
		d := newDisk(t, 1000)
		far(t, d, 0, numberedPut(3, "a", "x"))
		far(t, d, 999999, numberedPut(4, "b", "y"))
		s := openOn(t, d, most, 999999, 0)
		wantKeys(t, "Keys", s.Keys("", 5), "a", "b")
		wantSegments(t, s, 1)
	}
}

func TestOpenOfAnEmptyDisk(t *testing.T) {
	d := newDisk(t, 0)
	s := openOn(t, d, 1)
	wantSegments(t, s, 0)
	wantLive(t, s)
	wantNone(t, s, "")
	wantFiles(t, d)
	wantErr(t, "Sync", s.Sync(), api.OK)
	wantErr(t, "Rotate", s.Rotate(), api.OK)
	wantErr(t, "Merge", s.Merge(), api.ErrNone)
	wantSegments(t, s, 0)
	wantFiles(t, d)
}

func TestOpenNeedsNoPowerForWholeFiles(t *testing.T) {
	d := newDisk(t, 1000)
	laid(t, d, 0, numberedPut(1, "a", "x"))
	far(t, d, 3, numberedPut(2, "b", "y"))
	wantNumber(t, "burned", burned(t, d, func() { wantGet(t, openOn(t, d, 9, 3), "a", "x", api.OK) }), 0)
}

func TestOpenOfSegmentsWithAndWithoutIndexFiles(t *testing.T) {
	d := newDisk(t, 5000)
	laid(t, d, 0, numberedPut(1, "a", "1"))
	laid(t, d, 1, numberedPut(2, "b", "2"), numberedPut(3, "c", "3"))
	laid(t, d, 2, numberedPut(4, "d", "4"))
	laid(t, d, 3, numberedPut(5, "e", "5"))
	appended(t, d, file(4), "")
	wantErr(t, "Seal", segment.Seal(d, 1), api.OK)
	// Index files of what has a file are not asked: neither a spoilt one nor one that tells of another segment.
	appended(t, d, segment.Hints(2), "spoilt")
	wantErr(t, "Hint", segment.Hint(d, 3, []hint.Entry{{Key: "e", Off: 5, Len: 3, Seq: 99, Gone: true}}), api.OK)
	// Nor is that of a segment that is not in far.
	far(t, d, 8, numberedPut(100, "f", "6"), numberedGone(101, "a"))
	appended(t, d, "other", "")
	before := files(d)
	s := openOn(t, d, 100)
	wantLive(t, s, numberedPut(1, "a", "1"), numberedPut(2, "b", "2"), numberedPut(3, "c", "3"), numberedPut(4, "d", "4"), numberedPut(5, "e", "5"))
	wantSegments(t, s, 0, 1, 2, 3, 4, 5)
	wantNext(t, s, 6)
	d.Remove(file(5))
	wantText(t, "behind Open", files(d), before)
}

func TestOpenCutsWhatIsNoBatch(t *testing.T) {
	a, b := numberedPut(1, "a", "1"), numberedPut(2, "b", "2")
	for _, end := range []string{batch(t, b)[:1], batch(t, b)[:9], "torn", "\x00", spoilt(batch(t, b)) + batch(t, b)} {
		d := newDisk(t, 5000)
		laid(t, d, 0, a)
		appended(t, d, file(0), end)
		laid(t, d, 1, numberedPut(3, "c", "3"))
		wantErr(t, "Append", d.Append(file(2), end), api.OK)
		s := openOn(t, d, 100)
		wantLive(t, s, a, numberedPut(3, "c", "3"))
		if got, _ := bytesOf(d, file(0)); got != batch(t, a) {
			t.Errorf("behind %x: %x", end, got)
		}
		wantSegments(t, s, 0, 1, 2, 3)
		wantNext(t, s, 4)
	}
}

func TestTheFirstErrorOfOpenIsThatOfTheFirstTornSegment(t *testing.T) {
	for cuts := range 3 {
		d := newDisk(t, 5000)
		for _, n := range []int{2, 0, 1} {
			laid(t, d, n, numberedPut(uint64(n+1), "a", "1"))
			appended(t, d, file(n), "torn")
		}
		d.Fuse(cuts)
		// Told would return ErrNone, but it comes behind.
		s, err := store.Open(d, 100, []int{7})
		if s != nil || err != api.ErrDown {
			t.Errorf("Open with %d cuts: %v, %d", cuts, s, err)
		}
		for n := range 3 {
			b, _ := bytesOf(d, file(n))
			if torn := strings.HasSuffix(b, "torn"); torn != (n >= cuts) {
				t.Errorf("%d cuts: segment %d has %x", cuts, n, b)
			}
		}
	}
}

func TestTheFirstErrorOfToldIsThatOfTheFirstInFarsOrder(t *testing.T) {
	d := newDisk(t, 5000)
	far(t, d, 1, numberedPut(1, "a", "1"))
	appended(t, d, segment.Hints(2), "spoilt")
	appended(t, d, segment.Hints(3), crc.Seal(varint.Put(7)))
	appended(t, d, segment.Hints(5), "")
	whole, _ := bytesOf(d, segment.Hints(1))
	appended(t, d, segment.Hints(6), whole[:len(whole)-1])
	appended(t, d, file(9), "torn")
	for _, c := range []struct {
		l   []int
		err api.Errno
	}{
		{[]int{2}, api.ErrSum}, {[]int{3}, api.ErrForm}, {[]int{4}, api.ErrNone}, {[]int{5}, api.ErrSum}, {[]int{6}, api.ErrSum},
		{[]int{1, 2}, api.ErrSum}, {[]int{2, 3, 4}, api.ErrSum}, {[]int{3, 2, 4}, api.ErrForm}, {[]int{4, 3, 2}, api.ErrNone}, {[]int{1, 4, 2, 3}, api.ErrNone},
	} {
		s, err := store.Open(d, 100, c.l)
		if s != nil || err != c.err {
			t.Errorf("Open with %v: %v, %d; want %d", c.l, s, err, c.err)
		}
	}
	// What Load did before the error remains.
	if b, _ := bytesOf(d, file(9)); b != "" {
		t.Errorf("segment 9 has %q", b)
	}
}

func TestTheNumberOfTheActiveSegment(t *testing.T) {
	for _, c := range []struct {
		here, far []int
		active    int
	}{
		{nil, nil, 0},
		{[]int{0}, nil, 1}, {[]int{3}, nil, 4}, {[]int{3, 0, 7, 5}, nil, 8},
		{[]int{499998}, nil, 499999}, {[]int{499999}, nil, 500000}, {[]int{0, 499999}, nil, 500000},
		{[]int{500000}, nil, 0}, {[]int{500001, 999999}, nil, 0}, {[]int{2, 500000}, nil, 3}, {[]int{999999, 2, 500001}, nil, 3},
		{nil, []int{0}, 1}, {nil, []int{7, 3}, 8}, {nil, []int{3, 7, 3}, 8}, {nil, []int{499999}, 500000}, {nil, []int{500000}, 0}, {nil, []int{500000, 4, 999999}, 5},
		{[]int{3}, []int{7}, 8}, {[]int{7}, []int{3}, 8}, {[]int{500000}, []int{3}, 4}, {[]int{3}, []int{500000}, 4},
	} {
		d := newDisk(t, 5000)
		for i, n := range c.here {
			laid(t, d, n, numberedPut(uint64(i+1), fmt.Sprint(n), "here"))
		}
		for i, n := range c.far {
			far(t, d, n, numberedPut(uint64(i+100), fmt.Sprint(n), "far"))
		}
		before := files(d)
		s := openOn(t, d, 1000, c.far...)
		wantText(t, "behind Open", files(d), before)
		all := append(slices.Clone(c.here), c.active)
		slices.Sort(all)
		wantSegments(t, s, all...)
		if slices.Contains(d.List(), file(c.active)) {
			t.Errorf("%v and %v: the active segment %d has a file", c.here, c.far, c.active)
		}
		written(t, s, put("~", ""))
		if l, _ := s.Where("~"); l.Seg != c.active || l.Off != 5 {
			t.Errorf("%v and %v: %+v is not in segment %d", c.here, c.far, l, c.active)
		}
	}
}

func TestTheActiveSegmentBehindEmptyAndTornFiles(t *testing.T) {
	d := newDisk(t, 5000)
	appended(t, d, file(3), "")
	wantSegments(t, openOn(t, d, 1), 3, 4)
	appended(t, d, file(6), "torn")
	wantSegments(t, openOn(t, d, 1), 3, 6, 7)
	// No names of segments.
	appended(t, d, "s0000099", "")
	appended(t, d, "h000010", "")
	appended(t, d, "S000011", "")
	wantSegments(t, openOn(t, d, 1), 3, 6, 7)
}

func TestTheNumberOfTheLastWrite(t *testing.T) {
	d := newDisk(t, 5000)
	wantNext(t, openOn(t, d, 1000), 1)
	laid(t, d, 1, numberedPut(70, "a", "1"), numberedPut(20, "b", "2"))
	laid(t, d, 2, numberedPut(30, "c", "3"))
	d.Remove(file(0))
	wantNext(t, openOn(t, d, 1000), 71)
	wantNext(t, openOn(t, d, 1000), 72)
	laid(t, d, 2, numberedGone(80, "b"), numberedGone(75, "never there"))
	wantNext(t, openOn(t, d, 1000), 81)
	far(t, d, 9, numberedPut(90, "d", "4"), numberedPut(85, "a", "5"))
	far(t, d, 500003, numberedGone(110, "d"), numberedPut(100, "a", "6"))
	wantNext(t, openOn(t, d, 1000, 9), 91)
	wantNext(t, openOn(t, d, 1000), 92)
	wantNext(t, openOn(t, d, 1000, 9, 500003), 111)
	laid(t, d, 500004, numberedPut(1<<40-5, "e", "7"))
	wantNext(t, openOn(t, d, 1000, 9), 1<<40-4)
}

func TestTheGreatestNumberDecidesWhereverItIs(t *testing.T) {
	d := newDisk(t, 5000)
	laid(t, d, 0, numberedPut(9, "a", "newest"), numberedGone(9, "b"), numberedPut(1, "c", "old"), numberedGone(5, "d"), numberedPut(8, "d", "newest"))
	laid(t, d, 0, numberedPut(7, "a", "old"), numberedPut(6, "b", "old"), numberedPut(2, "d", "old"))
	laid(t, d, 4, numberedGone(8, "a"), numberedPut(8, "b", "old"), numberedGone(3, "c"), numberedPut(4, "c", "newest"))
	laid(t, d, 700000, numberedPut(1, "a", "old"), numberedGone(3, "c"), numberedGone(7, "d"))
	far(t, d, 2, numberedPut(3, "e", "old"), numberedGone(4, "f"), numberedGone(10, "g"), numberedPut(11, "h", "far"))
	far(t, d, 1, numberedGone(2, "e"), numberedPut(1, "f", "old"), numberedPut(9, "g", "old"), numberedGone(10, "h"), numberedPut(1, "c", "old"))
	for _, l := range [][]int{{1, 2}, {2, 1}, {1, 2, 1, 2}} {
		s := openOn(t, d, 1000, l...)
		wantKeys(t, "Keys", s.Keys("", 100), "a", "c", "d", "e", "h")
		for _, key := range []string{"a", "c", "d"} {
			wantGet(t, s, key, "newest", api.OK)
		}
		for key, at := range map[string]api.Loc{"e": {Seg: 2, Off: 5, Seq: 3}, "h": {Seg: 2, Seq: 11}} {
			if l, ok := s.Where(key); !ok || l.Seg != at.Seg || l.Seq != at.Seq {
				t.Errorf("Where(%q): %+v, %t", key, l, ok)
			}
			wantGet(t, s, key, "", api.ErrNone)
		}
		wantNone(t, s, "b")
		wantNone(t, s, "f")
		wantNone(t, s, "g")
	}
}

func TestOfTheSameNumberTheOneReadLast(t *testing.T) {
	d := newDisk(t, 5000)
	laid(t, d, 4, numberedPut(5, "a", "four"), numberedGone(5, "b"), numberedPut(5, "c", "four"))
	laid(t, d, 3, numberedPut(5, "a", "three"), numberedPut(5, "b", "three"), numberedGone(5, "c"))
	laid(t, d, 0, numberedPut(7, "d", "once"), numberedPut(7, "d", "twice"), numberedPut(7, "e", "once"), numberedGone(7, "e"), numberedGone(7, "f"), numberedPut(7, "f", "twice"))
	laid(t, d, 0, numberedPut(7, "d", "three times"))
	s := openOn(t, d, 1000)
	wantLive(t, s, numberedPut(5, "a", "four"), numberedPut(5, "c", "four"), numberedPut(7, "d", "three times"), numberedPut(7, "f", "twice"))
	wantNext(t, s, 8)
}

func TestOfTheSameNumberFarOnesAreReadLast(t *testing.T) {
	d := newDisk(t, 5000)
	laid(t, d, 9, numberedPut(5, "a", "here"), numberedPut(5, "b", "here"), numberedGone(5, "c"), numberedGone(5, "d"), numberedPut(5, "e", "here"))
	laid(t, d, 600000, numberedPut(5, "e", "here too"))
	first := far(t, d, 3, numberedPut(5, "a", "far"), numberedGone(5, "b"), numberedPut(5, "c", "far"))
	second := far(t, d, 1, numberedGone(5, "a"), numberedPut(5, "b", "far"), numberedPut(5, "c", "far"))

	s := openOn(t, d, 1000, 3, 1)
	wantKeys(t, "Keys", s.Keys("", 9), "b", "c", "e")
	wantWhere(t, s, "b", at(1, second[1]))
	wantWhere(t, s, "c", at(1, second[2]))
	wantGet(t, s, "e", "here too", api.OK)

	s = openOn(t, d, 1000, 1, 3)
	wantKeys(t, "Keys", s.Keys("", 9), "a", "c", "e")
	wantWhere(t, s, "a", at(3, first[0]))
	wantWhere(t, s, "c", at(3, first[2]))

	// The one that is there twice is read last.
	s = openOn(t, d, 1000, 3, 1, 3)
	wantKeys(t, "Keys", s.Keys("", 9), "a", "c", "e")
	wantWhere(t, s, "c", at(3, first[2]))

	s = openOn(t, d, 1000, 3)
	wantKeys(t, "Keys", s.Keys("", 9), "a", "c", "e")
	s = openOn(t, d, 1000)
	wantKeys(t, "Keys", s.Keys("", 9), "a", "b", "e")
}

// P16.1: Segments, Learn, Len.

func TestSegments(t *testing.T) {
	d := newDisk(t, 5000)
	laid(t, d, 7, numberedPut(1, "a", "1"))
	laid(t, d, 600000, numberedPut(2, "b", "2"))
	far(t, d, 8, numberedPut(3, "c", "3"))
	s := openOn(t, d, 15, 8)
	wantSegments(t, s, 7, 9, 600000)
	written(t, s, put("d", "4"))
	wantSegments(t, s, 7, 9, 600000)
	written(t, s, put("d", "a longer value"))
	written(t, s, put("e", "5"))
	wantSegments(t, s, 7, 9, 10, 600000)
	wantErr(t, "Rotate", s.Rotate(), api.OK)
	wantSegments(t, s, 7, 9, 10, 11, 600000)
	// The files of the disk count, whoever removes or creates them.
	d.Remove(file(7))
	laid(t, d, 8, numberedPut(3, "c", "3"))
	wantSegments(t, s, 8, 9, 10, 11, 600000)
	d.Remove(file(10))
	appended(t, d, segment.Name(999999), "")
	wantSegments(t, s, 8, 9, 11, 600000, 999999)
	appended(t, d, "s12", "")
	wantSegments(t, s, 8, 9, 11, 600000, 999999)
}

func TestTheCallersCanWriteToResults(t *testing.T) {
	s := openOn(t, newDisk(t, 1000), 1)
	written(t, s, put("a", "1"))
	written(t, s, put("b", "2"))
	before := reads(s)
	for _, n := range s.Segments() {
		s.Segments()[n] = 77
	}
	s.Keys("", 2)[0] = "z"
	l, _ := s.Scan("", 2)
	l[0] = api.Rec{}
	wantText(t, "reads", reads(s), before)
}

func TestLearn(t *testing.T) {
	d := newDisk(t, 5000)
	laid(t, d, 0, numberedPut(1, "a", "1"), numberedPut(2, "b", "2"), numberedPut(3, "c", "3"), numberedGone(4, "d"), numberedPut(5, "e", "5"))
	s := openOn(t, d, 1000)
	where := func(key string) api.Loc { l, _ := s.Where(key); return l }
	b, c, e := where("b"), where("c"), where("e")
	l := []hint.Entry{
		{Key: "a", Off: 100, Len: 7, Seq: 1},
		{Key: "b", Off: 101, Len: 7, Seq: 3},             // another number, greater
		{Key: "c", Off: 102, Len: 7, Seq: 2},             // another number, less
		{Key: "d", Off: 103, Len: 7, Seq: 4},             // not live
		{Key: "e", Off: 104, Len: 7, Seq: 5, Gone: true}, // Gone
		{Key: "f", Off: 105, Len: 7, Seq: 6},             // never there
		{Key: "", Off: 106, Len: 7, Seq: 0},
	}
	given := slices.Clone(l)
	s.Learn(500007, l)
	if !slices.Equal(l, given) {
		t.Errorf("Learn changed its argument to %+v", l)
	}
	wantWhere(t, s, "a", api.Loc{Seg: 500007, Off: 100, Len: 7, Seq: 1})
	wantWhere(t, s, "b", b)
	wantWhere(t, s, "c", c)
	wantWhere(t, s, "e", e)
	wantNone(t, s, "d")
	wantNone(t, s, "f")
	wantNone(t, s, "")
	wantNumber(t, "Len", s.Len(), 4)
	wantGet(t, s, "a", "", api.ErrNone)
	wantSegments(t, s, 0, 1)
	wantNext(t, s, 6)
}

func TestLearnOfNothing(t *testing.T) {
	d := newDisk(t, 5000)
	s := openOn(t, d, 1000)
	written(t, s, put("a", "1"))
	wantSame(t, "Learn", d, s, func() { s.Learn(0, nil); s.Learn(math.MinInt, []hint.Entry{}) })
}

func TestOfLearnsTheLastCounts(t *testing.T) {
	d := newDisk(t, 5000)
	s := openOn(t, d, 1000)
	written(t, s, put("a", "1"))
	s.Learn(7, []hint.Entry{{Key: "a", Off: 1, Len: 2, Seq: 1}, {Key: "a", Off: 3, Len: 4, Seq: 1}, {Key: "a", Off: 5, Len: 6, Seq: 2}})
	wantWhere(t, s, "a", api.Loc{Seg: 7, Off: 3, Len: 4, Seq: 1})
	for _, n := range []int{math.MinInt, -1, 1000000, math.MaxInt} {
		s.Learn(n, []hint.Entry{{Key: "a", Off: -1, Len: math.MaxInt, Seq: 1}})
		wantWhere(t, s, "a", api.Loc{Seg: n, Off: -1, Len: math.MaxInt, Seq: 1})
		wantGet(t, s, "a", "", api.ErrNone)
	}
	written(t, s, put("a", "2"))
	wantGet(t, s, "a", "2", api.OK)
	s.Learn(9, []hint.Entry{{Key: "a", Off: 1, Len: 2, Seq: 1}})
	wantGet(t, s, "a", "2", api.OK)
}

func TestLearnOfWhatWasBroughtBack(t *testing.T) {
	d := newDisk(t, 5000)
	r := numberedPut(1, "a", "1")
	laid(t, d, 500001, r, numberedPut(2, "b", "2"))
	b := evicted(t, d, 500001)
	s := openOn(t, d, 1000, 500001)
	wantGet(t, s, "a", "", api.ErrNone)
	written(t, s, put("b", "3"))
	// Under another number, at another place.
	laid(t, d, 500002, numberedPut(9, "z", "9"))
	appended(t, d, file(500002), b)
	l, err := segment.Load(d, 500002)
	wantErr(t, "Load", err, api.OK)
	s.Learn(500002, l)
	wantLive(t, s, r, numberedPut(3, "b", "3"))
	wantWhere(t, s, "a", at(500002, l[1]))
}

func TestLen(t *testing.T) {
	s := openOn(t, newDisk(t, roomy), 50)
	for i := range 300 {
		written(t, s, put(fmt.Sprint(i), ""), put("again", fmt.Sprint(i)))
		wantNumber(t, "Len", s.Len(), i+2)
	}
	for i := range 300 {
		written(t, s, gone(fmt.Sprint(i)), gone("never"))
		wantNumber(t, "Len", s.Len(), 300-i)
	}
}

// P16.2

func TestWriteGivesTheNextNumbers(t *testing.T) {
	s := openOn(t, newDisk(t, roomy), 100)
	l := []api.Rec{numberedPut(99, "a", "1"), numberedPut(0, "b", "2"), numberedPut(math.MaxUint64, "c", "3"), numberedPut(1, "d", "4"), numberedGone(7, "e")}
	given := slices.Clone(l)
	written(t, s, l...)
	if !slices.Equal(l, given) {
		t.Errorf("Write changed its argument to %+v", l)
	}
	wantLive(t, s, numberedPut(1, "a", "1"), numberedPut(2, "b", "2"), numberedPut(3, "c", "3"), numberedPut(4, "d", "4"))
	written(t, s, numberedPut(5, "c", "5"))
	wantLive(t, s, numberedPut(1, "a", "1"), numberedPut(2, "b", "2"), numberedPut(6, "c", "5"), numberedPut(4, "d", "4"))
	var many []api.Rec
	for i := range 16 {
		many = append(many, put(fmt.Sprint("many", i), fmt.Sprint(i)))
	}
	written(t, s, many...)
	for i, r := range many {
		if l, ok := s.Where(r.Key); l.Seq != uint64(i+7) || !ok {
			t.Errorf("Where(%q): %+v, %t", r.Key, l, ok)
		}
	}
	wantNext(t, s, 23)
}

func TestWrittenRecordsAreInTheActiveSegment(t *testing.T) {
	d := newDisk(t, 5000)
	s := openOn(t, d, 1000)
	first := []api.Rec{numberedPut(1, "a", "1"), numberedGone(2, "b")}
	second := []api.Rec{numberedPut(3, "c", strings.Repeat("v", 300)), numberedPut(4, strings.Repeat("k", 40), "")}
	written(t, s, first...)
	written(t, s, second...)
	if b, _ := bytesOf(d, file(0)); b != batch(t, first...)+batch(t, second...) {
		t.Errorf("segment 0: %x", b)
	}
	entries, err := segment.Load(d, 0)
	wantErr(t, "Load", err, api.OK)
	wantWhere(t, s, "a", at(0, entries[0]))
	wantWhere(t, s, "c", at(0, entries[2]))
	wantWhere(t, s, strings.Repeat("k", 40), at(0, entries[3]))
	wantFiles(t, d, file(0))
}

func TestTheSameKeyTwiceInABatch(t *testing.T) {
	s := openOn(t, newDisk(t, 5000), 1000)
	written(t, s, put("a", "1"), put("b", "1"), put("a", "2"), gone("b"), gone("c"), put("c", "3"), put("d", "1"), gone("d"), put("d", "2"), gone("e"), put("e", "1"), gone("e"))
	wantLive(t, s, numberedPut(3, "a", "2"), numberedPut(6, "c", "3"), numberedPut(9, "d", "2"))
	wantNext(t, s, 13)
}

func TestWriteOfDeletions(t *testing.T) {
	d := newDisk(t, 5000)
	s := openOn(t, d, 1000)
	written(t, s, gone("never"))
	wantLive(t, s)
	written(t, s, put("a", ""))
	written(t, s, gone("a"))
	written(t, s, gone("a"))
	wantLive(t, s)
	written(t, s, put("a", "back"))
	wantLive(t, s, numberedPut(5, "a", "back"))
	s = openOn(t, d, 1000)
	wantLive(t, s, numberedPut(5, "a", "back"))
}

// refused are batches that segment.Write refuses.
func refused() [][]api.Rec {
	long := strings.Repeat("x", 301)
	return [][]api.Rec{
		nil, {}, make([]api.Rec, 17), slices.Repeat([]api.Rec{put("a", "new")}, 17), slices.Repeat([]api.Rec{gone("a")}, 5000),
		{put("", "v")}, {put(long[:41], "v")}, {put("a", long)}, {{Key: "a", Value: "v", Gone: true}}, {gone("")},
		{put("a", "new"), put("b", "new"), put("", "")}, {put("", ""), gone("a")},
	}
}

func TestWriteOfRefusedBatches(t *testing.T) {
	d := newDisk(t, 5000)
	s := openOn(t, d, 1000)
	for i := range 2 {
		for _, l := range refused() {
			wantSame(t, fmt.Sprintf("Write %.50v", l), d, s, func() { wantErr(t, "Write", s.Write(l), api.ErrArg) })
		}
		wantNext(t, s, uint64(2*i+1))
		written(t, s, put("a", "old"))
	}
}

func TestARefusedBatchNeedsNoPower(t *testing.T) {
	d := newDisk(t, 5000)
	s := openOn(t, d, 1000)
	written(t, s, put("a", "old"))
	d.Fuse(0)
	for _, l := range refused() {
		wantErr(t, "Write", s.Write(l), api.ErrArg)
	}
	wantErr(t, "Write", s.Write([]api.Rec{put("a", "new")}), api.ErrDown)
}

func TestTheGreatestNumberOfAWrite(t *testing.T) {
	d := newDisk(t, 5000)
	laid(t, d, 0, numberedPut(1<<40-2, "a", "1"))
	s := openOn(t, d, 1000)
	two := []api.Rec{put("b", "2"), put("c", "3")}
	wantSame(t, "three", d, s, func() { wantErr(t, "Write", s.Write(append(two, gone("a"))), api.ErrArg) })
	written(t, s, two...)
	wantLive(t, s, numberedPut(1<<40-2, "a", "1"), numberedPut(1<<40-1, "b", "2"), numberedPut(1<<40, "c", "3"))
	wantSame(t, "one", d, s, func() { wantErr(t, "Write", s.Write(two[:1]), api.ErrArg) })
	wantErr(t, "Merge", s.Merge(), api.OK)
	wantLive(t, s, numberedPut(1<<40-2, "a", "1"), numberedPut(1<<40-1, "b", "2"), numberedPut(1<<40, "c", "3"))
}

func TestTheActiveSegmentAtMost(t *testing.T) {
	r := put("a", "a value")
	one := size(t, numbered(1, r))
	for _, c := range []struct{ most, active int }{{one + 1, 0}, {one, 1}, {one - 1, 1}, {1, 1}, {2 * one, 0}, {2*one + 1, 0}, {roomy, 0}} {
		d := newDisk(t, 5000)
		s := openOn(t, d, c.most)
		written(t, s, r)
		wantSegments(t, s, 0)
		written(t, s, r)
		if l, _ := s.Where("a"); l.Seg != c.active {
			t.Errorf("most %d: the second write of %d bytes is in segment %d", c.most, one, l.Seg)
		}
	}
	// It is the size before the write that counts.
	d := newDisk(t, 5000)
	s := openOn(t, d, 2*one)
	written(t, s, r)
	written(t, s, put("b", strings.Repeat("x", 300)))
	wantSegments(t, s, 0)
	written(t, s, r)
	wantSegments(t, s, 0, 1)
	wantLive(t, s, numberedPut(3, "a", "a value"), numberedPut(2, "b", strings.Repeat("x", 300)))
}

func TestWriteMakesOnlyTheOldSegmentDurable(t *testing.T) {
	d := newDisk(t, 5000)
	s := openOn(t, d, 1)
	written(t, s, put("a", "1"))
	written(t, s, put("b", "2"))
	d.Crash(nil)
	if b, _ := bytesOf(d, file(0)); b != batch(t, numberedPut(1, "a", "1")) {
		t.Errorf("segment 0: %x", b)
	}
	if b, ok := bytesOf(d, file(1)); b != "" || !ok {
		t.Errorf("segment 1: %x, %t", b, ok)
	}
}

func TestTheCallsOfTheDiskThatWriteMakes(t *testing.T) {
	d := newDisk(t, 5000)
	s := openOn(t, d, 15)
	for i, want := range []int{1, 1, 2, 1, 2} {
		wantNumber(t, fmt.Sprint("burned by write ", i), burned(t, d, func() { written(t, s, put("a", "1")) }), want)
	}
}

func TestWriteWithoutSpace(t *testing.T) {
	one := size(t, numberedPut(1, "a", "1"))
	d := newDisk(t, 3*one)
	s := openOn(t, d, 1)
	written(t, s, put("a", "1"))
	long := []api.Rec{put("b", "2"), put("a", "a longer value, for which there is no space")}
	// That the full segment is rotated ahead remains.
	wantErr(t, "Write", s.Write(long), api.ErrFull)
	wantSegments(t, s, 0, 1)
	wantFiles(t, d, file(0))
	wantSame(t, "Write", d, s, func() { wantErr(t, "Write", s.Write(long), api.ErrFull) })
	written(t, s, put("b", "2"))
	written(t, s, put("a", "3"))
	wantLive(t, s, numberedPut(3, "a", "3"), numberedPut(2, "b", "2"))
	wantErr(t, "Write", s.Write([]api.Rec{gone("a")}), api.ErrFull)
	wantLive(t, s, numberedPut(3, "a", "3"), numberedPut(2, "b", "2"))
	wantNumber(t, "Left", d.Left(), 0)
}

func TestWriteWithoutPower(t *testing.T) {
	d := newDisk(t, 5000)
	s := openOn(t, d, 15)
	written(t, s, put("a", "1"))
	d.Fuse(0)
	wantSame(t, "Write", d, s, func() { wantErr(t, "Write", s.Write([]api.Rec{put("b", "2")}), api.ErrDown) })
	d.Crash([]int{1000})
	wantNext(t, s, 2)

	// The file has most bytes now: the first call of the disk is the Sync of Rotate.
	d.Fuse(0)
	wantSame(t, "Write", d, s, func() { wantErr(t, "Write", s.Write([]api.Rec{put("b", "2")}), api.ErrDown) })
	d.Crash([]int{1000})
	d.Fuse(1)
	wantErr(t, "Write", s.Write([]api.Rec{put("b", "2")}), api.ErrDown)
	wantLive(t, s, numberedPut(1, "a", "1"), numberedPut(2, "~next", ""))
	wantSegments(t, s, 0, 1)
	wantFiles(t, d, file(0))
}

func TestTheErrorOfRotateComesFirst(t *testing.T) {
	for _, l := range refused() {
		d := newDisk(t, 5000)
		s := openOn(t, d, 1)
		written(t, s, put("a", "1"))
		d.Fuse(0)
		wantSame(t, "Write", d, s, func() { wantErr(t, "Write", s.Write(l), api.ErrDown) })
		d.Crash([]int{1000})
		wantErr(t, "Write", s.Write(l), api.ErrArg)
		wantLive(t, s, numberedPut(1, "a", "1"))
		wantSegments(t, s, 0, 1)
		wantNext(t, s, 2)
		wantSegments(t, s, 0, 1)
	}
}

func TestBehindTheGreatestSegmentThereIsNone(t *testing.T) {
	t.Parallel()
	d := newDisk(t, 5000)
	laid(t, d, 499999, numberedPut(1, "a", "1"))
	s := openOn(t, d, 1)
	// There is no other way to have so great a number: the segments between are not there.
	for n := api.FirstFar; n <= 999999; n++ {
		if s.Write([]api.Rec{put("a", "2")}) != api.OK {
			t.Fatalf("Write to %d", n)
		}
		d.Remove(segment.Name(n - 1))
	}
	wantErr(t, "Rotate", s.Rotate(), api.OK)
	wantSegments(t, s, 999999, 1000000)
	wantSame(t, "Write", d, s, func() { wantErr(t, "Write", s.Write([]api.Rec{put("a", "3")}), api.ErrArg) })
	wantErr(t, "Sync", s.Sync(), api.OK)
	wantErr(t, "Rotate", s.Rotate(), api.OK)
	wantSame(t, "Merge", d, s, func() { wantErr(t, "Merge", s.Merge(), api.ErrArg) })
	wantGet(t, s, "a", "2", api.OK)
}

// P16.3

// alphabet is a store with these live keys, in two segments, and some that are not live; the values are the keys in capital letters.
func alphabet(t *testing.T, d *disk.Disk, keys ...string) *store.Store {
	t.Helper()
	s := openOn(t, d, 1000)
	for i, key := range keys {
		written(t, s, put(key, strings.ToUpper(key)), put(key+"gone", "v"), gone(key+"gone"))
		if i == len(keys)/2 {
			wantErr(t, "Rotate", s.Rotate(), api.OK)
		}
	}
	return s
}

func TestGet(t *testing.T) {
	d := newDisk(t, 5000)
	s := alphabet(t, d, "b", "a", "c")
	wantLive(t, s, numberedPut(4, "a", "A"), numberedPut(1, "b", "B"), numberedPut(7, "c", "C"))
	for _, key := range []string{"", "never", "agone", "bgone", "A", "a\x00", strings.Repeat("k", 41), strings.Repeat("k", 100000)} {
		wantNone(t, s, key)
	}
	written(t, s, put("empty", ""))
	wantGet(t, s, "empty", "", api.OK)
	d.Fuse(0)
	wantGet(t, s, "b", "B", api.OK)
	wantErr(t, "Write", s.Write([]api.Rec{put("b", "other")}), api.ErrDown)
	wantGet(t, s, "b", "B", api.OK)
}

func TestWhere(t *testing.T) {
	d := newDisk(t, 5000)
	s := openOn(t, d, 1000)
	written(t, s, put("a", "1"), put("bb", "22"))
	wantErr(t, "Rotate", s.Rotate(), api.OK)
	written(t, s, put("c", "3"))
	written(t, s, put("d", "4"))
	wantWhere(t, s, "a", api.Loc{Seg: 0, Off: 5, Len: 5, Seq: 1})
	wantWhere(t, s, "bb", api.Loc{Seg: 0, Off: 10, Len: 7, Seq: 2})
	wantWhere(t, s, "c", api.Loc{Seg: 1, Off: 5, Len: 5, Seq: 3})
	wantWhere(t, s, "d", api.Loc{Seg: 1, Off: 15, Len: 5, Seq: 4})
	written(t, s, put("a", "5"), gone("bb"))
	wantWhere(t, s, "a", api.Loc{Seg: 1, Off: 25, Len: 5, Seq: 5})
	wantNone(t, s, "bb")
	wantNone(t, s, "")
}

func TestScanAndKeys(t *testing.T) {
	s := alphabet(t, newDisk(t, 5000), "d", "b", "f", "bb", "h")
	live := []api.Rec{numberedPut(4, "b", "B"), numberedPut(10, "bb", "BB"), numberedPut(1, "d", "D"), numberedPut(7, "f", "F"), numberedPut(13, "h", "H")}
	wantLive(t, s, live...)
	for _, c := range []struct {
		from  string
		first int
	}{
		{"", 0}, {"\x00", 0}, {"a", 0}, {"b", 0}, {"b\x00", 1}, {"ba", 1}, {"bb", 1}, {"bbgone", 2}, {"c", 2}, {"d", 2}, {"dd", 3},
		{"f", 3}, {"fgone", 4}, {"g", 4}, {"h", 4}, {"h\x00", 5}, {"hgone", 5}, {"z", 5}, {"\xff\xff", 5},
	} {
		behind := live[c.first:]
		for _, most := range []int{0, 1, 2, 3, 4, 5, 6, 1000, math.MaxInt} {
			want := behind[:min(most, len(behind))]
			if l, err := s.Scan(c.from, most); !slices.Equal(l, want) || err != api.OK {
				t.Errorf("Scan(%q, %d): %+v, %d; want %+v", c.from, most, l, err, want)
			}
			var keys []string
			for _, r := range want {
				keys = append(keys, r.Key)
			}
			wantKeys(t, fmt.Sprint("Keys of ", c.from, most), s.Keys(c.from, most), keys...)
		}
		for _, most := range []int{-1, -2, math.MinInt} {
			if l, err := s.Scan(c.from, most); len(l) > 0 || err != api.ErrArg {
				t.Errorf("Scan(%q, %d): %+v, %d; want an error", c.from, most, l, err)
			}
			wantKeys(t, fmt.Sprint("Keys of ", c.from, most), s.Keys(c.from, most))
		}
	}
}

func TestReadingFromASegmentWithoutAFile(t *testing.T) {
	d := newDisk(t, 5000)
	// The keys b, d and f are in segment 0, bb and h in segment 1.
	s := alphabet(t, d, "d", "b", "f", "bb", "h")
	where, _ := s.Where("d")
	before := reads(s)
	kept, _ := bytesOf(d, file(0))
	wantErr(t, "Remove", d.Remove(file(0)), api.OK)
	for key, value := range map[string]string{"b": "", "bb": "BB", "d": "", "f": "", "h": "H"} {
		err := api.OK
		if value == "" {
			err = api.ErrNone
		}
		wantGet(t, s, key, value, err)
	}
	wantWhere(t, s, "d", where)
	wantNumber(t, "Len", s.Len(), 5)
	wantKeys(t, "Keys", s.Keys("", 9), "b", "bb", "d", "f", "h")
	wantKeys(t, "Keys", s.Keys("c", 2), "d", "f")
	for _, c := range []struct {
		from string
		most int
		err  api.Errno
		l    []api.Rec
	}{
		{"", 9, api.ErrNone, nil}, {"", 1, api.ErrNone, nil}, {"", 0, api.OK, nil}, {"", -1, api.ErrArg, nil}, {"bb", 2, api.ErrNone, nil},
		{"bb", 1, api.OK, []api.Rec{numberedPut(10, "bb", "BB")}}, {"g", 5, api.OK, []api.Rec{numberedPut(13, "h", "H")}}, {"f", 5, api.ErrNone, nil}, {"z", 5, api.OK, nil},
	} {
		if l, err := s.Scan(c.from, c.most); !slices.Equal(l, c.l) || err != c.err {
			t.Errorf("Scan(%q, %d): %+v, %d; want %+v, %d", c.from, c.most, l, err, c.l, c.err)
		}
	}
	// The file is there again.
	appended(t, d, file(0), kept)
	wantText(t, "reads", reads(s), before)
}

func TestReadingOfFarKeys(t *testing.T) {
	d := newDisk(t, 5000)
	laid(t, d, 0, numberedPut(1, "a", "1"), numberedPut(2, "b", "2"))
	entries := far(t, d, 1, numberedPut(3, "b", "3"), numberedPut(4, "c", "4"))
	s := openOn(t, d, 1000, 1)
	wantGet(t, s, "a", "1", api.OK)
	wantGet(t, s, "b", "", api.ErrNone)
	wantGet(t, s, "c", "", api.ErrNone)
	wantWhere(t, s, "b", at(1, entries[0]))
	wantKeys(t, "Keys", s.Keys("", 9), "a", "b", "c")
	wantNumber(t, "Len", s.Len(), 3)
	if l, err := s.Scan("", 1); !slices.Equal(l, []api.Rec{numberedPut(1, "a", "1")}) || err != api.OK {
		t.Errorf("Scan: %+v, %d", l, err)
	}
	if l, err := s.Scan("", 2); len(l) > 0 || err != api.ErrNone {
		t.Errorf("Scan: %+v, %d", l, err)
	}
	written(t, s, put("b", "5"), gone("c"))
	wantLive(t, s, numberedPut(1, "a", "1"), numberedPut(5, "b", "5"))
}

// What a wrong Learn tells is not what stands there.
func TestReadingWhatIsNotThere(t *testing.T) {
	d := newDisk(t, 5000)
	s := openOn(t, d, 1000)
	written(t, s, put("a", "1"), put("b", "2"))
	for _, e := range []hint.Entry{{Off: 10, Len: 5}, {Off: 5, Len: 4}, {Off: 5, Len: 6}, {Off: 11, Len: 5}, {Off: -1, Len: 5}, {Off: 5, Len: -1}, {Off: math.MaxInt, Len: math.MaxInt}, {Off: math.MinInt}} {
		e.Key, e.Seq = "a", 1
		s.Learn(0, []hint.Entry{e})
		if v, err := s.Get("a"); v != "" || err == api.OK {
			t.Errorf("Get behind Learn of %+v: %q, %d", e, v, err)
		}
		if l, err := s.Scan("", 2); len(l) > 0 || err == api.OK {
			t.Errorf("Scan behind Learn of %+v: %+v, %d", e, l, err)
		}
		wantGet(t, s, "b", "2", api.OK)
	}
	s.Learn(0, []hint.Entry{{Key: "a", Off: 5, Len: 5, Seq: 1}})
	wantLive(t, s, numberedPut(1, "a", "1"), numberedPut(2, "b", "2"))
}

// P16.4: Sync and Rotate.

func TestSync(t *testing.T) {
	d := newDisk(t, 5000)
	s := openOn(t, d, 1000)
	wantNumber(t, "burned without a file", burned(t, d, func() { wantErr(t, "Sync", s.Sync(), api.OK) }), 0)
	written(t, s, put("a", "1"))
	wantNumber(t, "burned with a file", burned(t, d, func() { wantErr(t, "Sync", s.Sync(), api.OK) }), 1)
	written(t, s, put("b", "2"))
	wantSame(t, "Sync", d, s, func() { wantErr(t, "Sync", s.Sync(), api.OK) })
	wantDurable(t, d)
	written(t, s, put("c", "3"))
	d.Fuse(0)
	wantSame(t, "Sync", d, s, func() { wantErr(t, "Sync", s.Sync(), api.ErrDown) })
	d.Crash(nil)
	wantLive(t, openOn(t, d, 1000), numberedPut(1, "a", "1"), numberedPut(2, "b", "2"))
}

func TestSyncWithoutAFileNeedsNoPower(t *testing.T) {
	d := newDisk(t, 5000)
	s := openOn(t, d, 1000)
	d.Fuse(0)
	wantErr(t, "Sync", s.Sync(), api.OK)
	wantErr(t, "Rotate", s.Rotate(), api.OK)
	wantErr(t, "Merge", s.Merge(), api.ErrNone)
	wantSegments(t, s, 0)
}

func TestRotate(t *testing.T) {
	d := newDisk(t, 5000)
	laid(t, d, 4, numberedPut(1, "a", "1"))
	s := openOn(t, d, 1000)
	for range 3 {
		wantSame(t, "Rotate", d, s, func() {
			wantNumber(t, "burned without a file", burned(t, d, func() { wantErr(t, "Rotate", s.Rotate(), api.OK) }), 0)
		})
	}
	written(t, s, put("b", "2"))
	filesBefore := files(d)
	wantNumber(t, "burned with a file", burned(t, d, func() { wantErr(t, "Rotate", s.Rotate(), api.OK) }), 1)
	wantText(t, "behind Rotate", files(d), filesBefore)
	wantSegments(t, s, 4, 5, 6)
	wantErr(t, "Rotate", s.Rotate(), api.OK)
	wantSegments(t, s, 4, 5, 6)
	written(t, s, put("c", "3"))
	wantErr(t, "Rotate", s.Rotate(), api.OK)
	wantSegments(t, s, 4, 5, 6, 7)
	wantLive(t, s, numberedPut(1, "a", "1"), numberedPut(2, "b", "2"), numberedPut(3, "c", "3"))
	wantNext(t, s, 4)
}

func TestRotateMakesDurable(t *testing.T) {
	d := newDisk(t, 5000)
	s := openOn(t, d, 1000)
	written(t, s, put("a", "1"))
	written(t, s, put("b", "2"))
	wantErr(t, "Rotate", s.Rotate(), api.OK)
	wantDurable(t, d)
}

func TestRotateWithTheErrorOfSync(t *testing.T) {
	d := newDisk(t, 5000)
	s := openOn(t, d, 1000)
	written(t, s, put("a", "1"))
	d.Fuse(0)
	wantSame(t, "Rotate", d, s, func() { wantErr(t, "Rotate", s.Rotate(), api.ErrDown) })
	d.Crash([]int{1000})
	wantSegments(t, s, 0)
	written(t, s, put("b", "2"))
	wantSegments(t, s, 0)
	wantErr(t, "Rotate", s.Rotate(), api.OK)
	wantSegments(t, s, 0, 1)
}

func TestRotateWithAnEmptyFile(t *testing.T) {
	d := newDisk(t, 5000)
	s := openOn(t, d, 1000)
	appended(t, d, file(0), "")
	wantErr(t, "Rotate", s.Rotate(), api.OK)
	wantSegments(t, s, 0, 1)
}

// P16.4: Merge.

// wantMerged complains if a store, or another one that is opened anew on its disk, does not have these live keys.
func wantMerged(t *testing.T, d *disk.Disk, s *store.Store, l ...api.Rec) {
	t.Helper()
	wantLive(t, s, l...)
	wantDurable(t, d)
	wantLive(t, openOn(t, d, 1000), l...)
}

func TestMergeOfNothing(t *testing.T) {
	d := newDisk(t, 5000)
	far(t, d, 3, numberedPut(1, "a", "1"))
	s := openOn(t, d, 1000, 3)
	wantSame(t, "Merge", d, s, func() { wantErr(t, "Merge", s.Merge(), api.ErrNone) })
	s = openOn(t, d, 1000)
	wantSame(t, "Merge", d, s, func() { wantErr(t, "Merge", s.Merge(), api.ErrNone) })
	wantSegments(t, s, 0)
}

func TestMergeOfOneSegment(t *testing.T) {
	d := newDisk(t, 5000)
	s := openOn(t, d, 1000)
	written(t, s, put("b", "1"), put("a", "2"), gone("c"))
	written(t, s, put("b", "3"))
	wantErr(t, "Merge", s.Merge(), api.OK)
	wantFiles(t, d, file(1))
	if b, _ := bytesOf(d, file(1)); b != batch(t, numberedPut(2, "a", "2"), numberedPut(4, "b", "3")) {
		t.Errorf("segment 1: %x", b)
	}
	wantWhere(t, s, "a", api.Loc{Seg: 1, Off: 5, Len: 5, Seq: 2})
	wantWhere(t, s, "b", api.Loc{Seg: 1, Off: 10, Len: 5, Seq: 4})
	wantSegments(t, s, 1, 2)
	wantMerged(t, d, s, numberedPut(2, "a", "2"), numberedPut(4, "b", "3"))
}

func TestMergeOfSeveralSegments(t *testing.T) {
	d := newDisk(t, 5000)
	laid(t, d, 600000, numberedPut(9, "a", "newest"), numberedPut(2, "b", "old"))
	laid(t, d, 3, numberedPut(8, "a", "old"), numberedPut(3, "b", "newest"), numberedPut(4, "c", "old"), numberedPut(1, "e", "old"))
	laid(t, d, 0, numberedGone(5, "c"), numberedPut(1, "d", "newest"), numberedGone(7, "e"))
	appended(t, d, file(1), "")
	appended(t, d, "other", "")
	wantErr(t, "Seal", segment.Seal(d, 0), api.OK)
	s := openOn(t, d, 1000)
	written(t, s, put("f", "newest"))
	l := []api.Rec{numberedPut(9, "a", "newest"), numberedPut(3, "b", "newest"), numberedPut(1, "d", "newest"), numberedPut(10, "f", "newest")}
	wantErr(t, "Merge", s.Merge(), api.OK)
	wantFiles(t, d, segment.Hints(0), "other", file(5))
	if b, _ := bytesOf(d, file(5)); b != batch(t, l...) {
		t.Errorf("segment 5: %x", b)
	}
	wantSegments(t, s, 5, 6)
	wantMerged(t, d, s, l...)
	wantErr(t, "Merge", s.Merge(), api.OK)
	wantFiles(t, d, segment.Hints(0), "other", file(6))
	wantMerged(t, d, s, l...)
	wantNext(t, s, 11)
}

func TestMergeOfSealedSegmentsAlone(t *testing.T) {
	d := newDisk(t, 5000)
	s := openOn(t, d, 1)
	written(t, s, put("a", "1"))
	written(t, s, put("a", "2"))
	wantErr(t, "Rotate", s.Rotate(), api.OK)
	wantErr(t, "Merge", s.Merge(), api.OK)
	wantFiles(t, d, file(2))
	wantSegments(t, s, 2, 3)
	wantMerged(t, d, s, numberedPut(2, "a", "2"))
}

func TestMergeOfDeletionsAlone(t *testing.T) {
	d := newDisk(t, 5000)
	s := openOn(t, d, 1)
	written(t, s, put("a", "1"))
	written(t, s, gone("a"), gone("b"))
	wantErr(t, "Merge", s.Merge(), api.OK)
	wantFiles(t, d)
	wantSegments(t, s, 2)
	wantLive(t, s)
	wantErr(t, "Merge", s.Merge(), api.ErrNone)
	// The numbers go on here, but can be used again behind an Open.
	wantNext(t, s, 4)
	d.Remove(file(2))
	wantNext(t, openOn(t, d, 1), 1)
	wantFiles(t, d, file(0))
}

func TestMergeOfAnEmptyFile(t *testing.T) {
	d := newDisk(t, 5000)
	appended(t, d, file(4), "")
	s := openOn(t, d, 1)
	wantErr(t, "Merge", s.Merge(), api.OK)
	wantFiles(t, d)
	wantSegments(t, s, 5)
}

func TestMergeKeepsDeletionsOfFarKeys(t *testing.T) {
	for _, c := range []struct {
		what string
		open func(d *disk.Disk) *store.Store
		kept bool
	}{
		{"far empty", func(d *disk.Disk) *store.Store { return openOn(t, d, 1000) }, false},
		{"far not empty", func(d *disk.Disk) *store.Store { return openOn(t, d, 1000, 7) }, true},
		{"behind a Learn", func(d *disk.Disk) *store.Store {
			s := openOn(t, d, 1000)
			s.Learn(500000, []hint.Entry{{Key: "a", Off: 5, Len: 5, Seq: 1}})
			return s
		}, true},
		{"behind a Learn of nothing", func(d *disk.Disk) *store.Store { s := openOn(t, d, 1000); s.Learn(0, nil); return s }, true},
	} {
		d := newDisk(t, 5000)
		far(t, d, 7, numberedPut(1, "a", "1"))
		laid(t, d, 0, numberedPut(2, "b", "2"), numberedGone(3, "a"), numberedPut(4, "c", "4"), numberedGone(5, "c"))
		s := c.open(d)
		wantErr(t, c.what, s.Merge(), api.OK)
		want := []api.Rec{numberedPut(2, "b", "2")}
		if c.kept {
			want = []api.Rec{numberedGone(3, "a"), numberedPut(2, "b", "2"), numberedGone(5, "c")}
		}
		all := segment.All(d)
		if b, _ := bytesOf(d, file(all[0])); b != batch(t, want...) || len(all) != 1 {
			t.Errorf("%s: %v, %x", c.what, all, b)
		}
		wantLive(t, s, numberedPut(2, "b", "2"))
		if !c.kept {
			continue
		}
		again := openOn(t, d, 1000, 7)
		wantLive(t, again, numberedPut(2, "b", "2"))
		wantErr(t, c.what, again.Merge(), api.OK)
		wantLive(t, openOn(t, d, 1000, 7), numberedPut(2, "b", "2"))
	}
}

func TestMergeLeavesKeysOfFarSegments(t *testing.T) {
	d := newDisk(t, 5000)
	laid(t, d, 0, numberedPut(1, "a", "here"), numberedPut(2, "b", "here"), numberedPut(9, "c", "here"), numberedPut(4, "d", "here"), numberedGone(8, "e"))
	entries := far(t, d, 1, numberedPut(5, "b", "far"), numberedPut(6, "c", "far"), numberedGone(7, "d"), numberedPut(3, "e", "far"), numberedPut(10, "f", "far"))
	far(t, d, 500004, numberedPut(9, "g", "far"))
	s := openOn(t, d, 1000, 1, 500004)
	f := at(1, entries[4])
	for range 2 {
		wantErr(t, "Merge", s.Merge(), api.OK)
		for range 2 {
			wantKeys(t, "Keys", s.Keys("", 9), "a", "b", "c", "f", "g")
			wantNumber(t, "Len", s.Len(), 5)
			wantGet(t, s, "a", "here", api.OK)
			wantGet(t, s, "c", "here", api.OK)
			wantGet(t, s, "f", "", api.ErrNone)
			wantWhere(t, s, "b", at(1, entries[0]))
			wantWhere(t, s, "f", f)
			wantNone(t, s, "d")
			wantNone(t, s, "e")
			s = openOn(t, d, 1000, 500004, 1)
		}
	}
	// The older records of what is far are kept: they could be the newest ones again.
	s = openOn(t, d, 1000)
	wantLive(t, s, numberedPut(1, "a", "here"), numberedPut(2, "b", "here"), numberedPut(9, "c", "here"), numberedPut(4, "d", "here"))
}

func TestMergeLeavesKeysThatAreLiveByTheSameNumberFarAway(t *testing.T) {
	d := newDisk(t, 5000)
	laid(t, d, 0, numberedPut(5, "a", "here"), numberedPut(5, "b", "here"))
	entries := far(t, d, 1, numberedPut(5, "a", "far"), numberedGone(5, "b"))
	s := openOn(t, d, 1000, 1)
	for range 2 {
		wantErr(t, "Merge", s.Merge(), api.OK)
		wantWhere(t, s, "a", at(1, entries[0]))
		wantGet(t, s, "a", "", api.ErrNone)
		wantNone(t, s, "b")
		s = openOn(t, d, 1000, 1)
	}
}

func TestMergeOfTheSameNumberTwice(t *testing.T) {
	d := newDisk(t, 5000)
	laid(t, d, 2, numberedPut(5, "a", "two"), numberedGone(5, "b"), numberedPut(5, "c", "two"))
	laid(t, d, 1, numberedPut(5, "a", "one"), numberedPut(5, "b", "one"), numberedGone(5, "c"), numberedPut(6, "d", "one"), numberedPut(6, "d", "one again"))
	s := openOn(t, d, 1000)
	l := []api.Rec{numberedPut(5, "a", "two"), numberedPut(5, "c", "two"), numberedPut(6, "d", "one again")}
	wantLive(t, s, l...)
	wantErr(t, "Merge", s.Merge(), api.OK)
	wantMerged(t, d, s, l...)
}

func TestMergeBehindALearn(t *testing.T) {
	d := newDisk(t, 5000)
	s := openOn(t, d, 1000)
	written(t, s, put("a", "1"), put("b", "2"), put("c", "3"))
	wantErr(t, "Rotate", s.Rotate(), api.OK)
	written(t, s, put("d", "4"))
	b, _ := bytesOf(d, file(0))
	// The bytes of segment 0 are in 500000 as well, and the keys are read from there.
	appended(t, d, file(500000), b)
	l, err := segment.Load(d, 500000)
	wantErr(t, "Load", err, api.OK)
	s.Learn(500000, l[:2])
	// This one is not there.
	s.Learn(777777, []hint.Entry{{Key: "c", Off: 5, Len: 5, Seq: 3}})
	wantErr(t, "Merge", s.Merge(), api.OK)
	wantFiles(t, d, file(2))
	wantWhere(t, s, "a", api.Loc{Seg: 2, Off: 5, Len: 5, Seq: 1})
	wantWhere(t, s, "b", api.Loc{Seg: 2, Off: 10, Len: 5, Seq: 2})
	wantWhere(t, s, "c", api.Loc{Seg: 777777, Off: 5, Len: 5, Seq: 3})
	wantWhere(t, s, "d", api.Loc{Seg: 2, Off: 20, Len: 5, Seq: 4})
	wantLive(t, openOn(t, d, 1000), numberedPut(1, "a", "1"), numberedPut(2, "b", "2"), numberedPut(3, "c", "3"), numberedPut(4, "d", "4"))
}

// A wrong Learn must not let an older value, or a deletion, pass for the newest value.
func TestMergeBehindAWrongLearn(t *testing.T) {
	d := newDisk(t, 5000)
	far(t, d, 1, numberedPut(7, "a", "far"), numberedPut(7, "b", "far"))
	laid(t, d, 0, numberedPut(3, "a", "old"), numberedGone(7, "b"))
	s := openOn(t, d, 1000, 1)
	s.Learn(0, []hint.Entry{{Key: "a", Off: 5, Len: 5, Seq: 7}, {Key: "b", Off: 10, Len: 5, Seq: 7}})
	wantErr(t, "Merge", s.Merge(), api.OK)
	wantGet(t, s, "a", "", api.ErrNone)
	wantGet(t, s, "b", "", api.ErrNone)
	wantWhere(t, s, "a", api.Loc{Seg: 0, Off: 5, Len: 5, Seq: 7})
	wantKeys(t, "Keys", s.Keys("", 9), "a", "b")
}

func TestMergeOfMoreRecordsThanABatchHas(t *testing.T) {
	for _, many := range []int{15, 16, 17, 32, 33, 700} {
		d := newDisk(t, roomy)
		s := openOn(t, d, 500)
		var want []api.Rec
		for i := range many {
			r := put(fmt.Sprintf("%04d", i*13%many), strings.Repeat(fmt.Sprint(i), i%50))
			written(t, s, put(r.Key, "old"), r)
			want = append(want, numbered(uint64(2*i+2), r))
		}
		slices.SortFunc(want, func(a, b api.Rec) int { return strings.Compare(a.Key, b.Key) })
		old := segment.All(d)
		batches := (many + 15) / 16
		// Two Syncs, the batches, and the files that are removed.
		wantNumber(t, fmt.Sprint("burned by Merge of ", many), burned(t, d, func() { wantErr(t, "Merge", s.Merge(), api.OK) }), 2+batches+len(old))
		wantMerged(t, d, s, want...)
		var all strings.Builder
		for l := range slices.Chunk(want, 16) {
			all.WriteString(batch(t, l...))
		}
		if b, _ := bytesOf(d, d.List()[0]); b != all.String() {
			t.Errorf("the merged segment of %d records has %d bytes, want %d", many, len(b), all.Len())
		}
	}
}

func TestTheMergedSegmentCanBeGreaterThanMost(t *testing.T) {
	d := newDisk(t, 5000)
	s := openOn(t, d, 1)
	for i := range 40 {
		written(t, s, put(fmt.Sprint(i), "v"))
	}
	wantErr(t, "Merge", s.Merge(), api.OK)
	wantFiles(t, d, file(40))
	wantSegments(t, s, 40, 41)
	wantNumber(t, "Len", s.Len(), 40)
}

// merging is a disk with four segments, the last of which is not durable, with what is live, and the number of calls of the disk that a Merge makes.
func merging(t *testing.T, room int) (*disk.Disk, *store.Store, []api.Rec, int) {
	t.Helper()
	d := newDisk(t, room)
	s := openOn(t, d, 1000)
	var live []api.Rec
	for n := range 4 {
		for i := range 10 {
			r := put(fmt.Sprint(10*n+i+10), fmt.Sprint("value ", i))
			written(t, s, r, put("again", fmt.Sprint(10*n+i)), put("gone", "v"))
			live = append(live, numbered(uint64(10*n+i)*3+1, r))
		}
		if n < 3 {
			wantErr(t, "Rotate", s.Rotate(), api.OK)
		}
	}
	written(t, s, gone("gone"))
	live = append(live, numberedPut(119, "again", "39"))
	// Sync, three batches, Sync, four Removes.
	return d, s, live, 9
}

func TestMergeWithoutPower(t *testing.T) {
	for fuse := range 10 {
		d, s, live, calls := merging(t, roomy)
		wantNumber(t, "calls", calls, 9)
		before := d.List()
		d.Fuse(fuse)
		want := api.ErrDown
		if fuse >= calls {
			want = api.OK
		}
		wantErr(t, fmt.Sprint("Merge with ", fuse), s.Merge(), want)
		// The old files are there until all is written and durable, and then go, the least number first.
		removed := max(0, fuse-5)
		for n, name := range before {
			if _, there := bytesOf(d, name); there != (n >= removed) {
				t.Errorf("Merge with %d: file %s is there: %t", fuse, name, there)
			}
		}
		if _, there := bytesOf(d, file(4)); there != (fuse >= 2) {
			t.Errorf("Merge with %d: the merged file is there: %t", fuse, there)
		}
		l, _ := s.Where("again")
		if moved := l.Seg == 4; moved != (fuse >= 5) {
			t.Errorf("Merge with %d: %+v", fuse, l)
		}
		wantLive(t, s, live...)
	}
}

func TestACrashInTheMidstOfMerge(t *testing.T) {
	for fuse := 1; fuse < 10; fuse++ {
		for _, most := range []int{0, 1, 20, 300, 301, 10000} {
			d, s, live, _ := merging(t, roomy)
			d.Fuse(fuse)
			s.Merge()
			d.Crash(slices.Repeat([]int{most}, 9))
			again := openOn(t, d, 1000)
			wantLive(t, again, live...)
			wantErr(t, "Merge again", again.Merge(), api.OK)
			wantMerged(t, d, again, live...)
			wantNumber(t, "files behind Merge again", len(d.List()), 1)
		}
	}
}

func TestMergeWithoutSpace(t *testing.T) {
	d, _, _, _ := merging(t, roomy)
	used := roomy - d.Left()
	d, s, live, _ := merging(t, roomy)
	wantErr(t, "Merge", s.Merge(), api.OK)
	merged, _ := d.Size(file(4))
	for _, left := range []int{0, 1, 100, 250, 400, merged - 1, merged} {
		d, s, live, _ = merging(t, used+left)
		wantNumber(t, "Left", d.Left(), left)
		if left == merged {
			wantErr(t, "Merge", s.Merge(), api.OK)
			wantMerged(t, d, s, live...)
			continue
		}
		wantErr(t, "Rotate", s.Rotate(), api.OK)
		wantSame(t, "Merge", d, s, func() { wantErr(t, fmt.Sprint("Merge with ", left), s.Merge(), api.ErrFull) })
		wantFiles(t, d, file(0), file(1), file(2), file(3))
		wantSegments(t, s, 0, 1, 2, 3, 4)
		wantNumber(t, "Left", d.Left(), left)
		wantLive(t, s, live...)
		if left >= 100 {
			wantNext(t, s, 122)
			wantErr(t, "Merge", s.Merge(), api.ErrFull)
		}
		d.Crash(nil)
		openOn(t, d, 1000)
	}
}

func TestMergeWithoutSpaceRotates(t *testing.T) {
	one := size(t, numberedPut(1, "a", "1"))
	d := newDisk(t, one)
	s := openOn(t, d, 1000)
	written(t, s, put("a", "1"))
	wantErr(t, "Merge", s.Merge(), api.ErrFull)
	wantSegments(t, s, 0, 1)
	wantFiles(t, d, file(0))
	wantDurable(t, d)
	wantLive(t, s, numberedPut(1, "a", "1"))
}

func TestMergeWithoutSpaceAndPower(t *testing.T) {
	d, _, _, _ := merging(t, roomy)
	used := roomy - d.Left()
	d, s, live, _ := merging(t, used+400)
	// Sync, one batch, one for which there is no space, and no power to remove the first.
	d.Fuse(3)
	wantErr(t, "Merge", s.Merge(), api.ErrFull)
	wantLive(t, s, live...)
	wantFiles(t, d, file(0), file(1), file(2), file(3), file(4))
	d.Crash(nil)
	wantLive(t, openOn(t, d, 1000), live...)
}

func TestMergeOfATornSegment(t *testing.T) {
	d := newDisk(t, 5000)
	s := openOn(t, d, 1000)
	written(t, s, put("a", "1"))
	wantErr(t, "Rotate", s.Rotate(), api.OK)
	// Nothing of the store's makes such bytes, but they must not be merged.
	appended(t, d, file(0), "torn")
	d.Fuse(0)
	wantErr(t, "Merge", s.Merge(), api.ErrDown)
	wantLive(t, s, numberedPut(1, "a", "1"))
	d.Crash([]int{1000})
	wantErr(t, "Merge", s.Merge(), api.OK)
	wantMerged(t, d, s, numberedPut(1, "a", "1"))
}

// The number behind the greatest one below FirstFar can be that of a segment with a file.
func TestMergeNeverRemovesWhatItWrote(t *testing.T) {
	for _, others := range [][]int{{500000}, {500000, 500001}, {500001}, {500000, 500001, 500002, 500003}, {500002}} {
		d := newDisk(t, 5000)
		laid(t, d, 499999, numberedPut(1, "a", "1"))
		for i, n := range others {
			laid(t, d, n, numberedPut(uint64(i+2), fmt.Sprint(n), "v"))
		}
		s := openOn(t, d, 1000)
		before, err := s.Scan("", 9)
		wantErr(t, "Scan", err, api.OK)
		wantErr(t, "Merge", s.Merge(), api.OK)
		wantMerged(t, d, s, before...)
		wantNumber(t, "files", len(d.List()), 1)
	}
}
