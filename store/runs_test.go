package store_test

import (
	"fmt"
	"maps"
	"math/rand/v2"
	"slices"
	"strings"
	"testing"

	"thwart/api"
	"thwart/disk"
	"thwart/hint"
	"thwart/segment"
	"thwart/store"
)

// Runs of calls, compared with the chapter's words.

// worlds are two with disks of the same room, which must always tell the same.
type worlds struct {
	ours, plain *world
	done        []call
}

func newWorlds(room int) *worlds {
	return &worlds{ours: ours(room), plain: plain(room)}
}

// make makes a call in both worlds, and complains if they differ in its results.
func (w *worlds) make(t *testing.T, c call) {
	t.Helper()
	w.done = append(w.done, c)
	if got, want := c.on(w.ours), c.on(w.plain); got != want {
		t.Fatalf("the last of %+v: %s, want %s", w.done, got, want)
	}
}

// compare complains if the worlds differ in what can be read.
func (w *worlds) compare(t *testing.T) {
	t.Helper()
	wantText(t, fmt.Sprintf("files behind %+v", w.done), files(w.ours.d), files(w.plain.d))
	wantText(t, fmt.Sprintf("behind %+v", w.done), reads(w.ours.s), reads(w.plain.s))
	if t.Failed() {
		t.FailNow()
	}
}

// absent are the numbers below 12 of segments that have index files, but no files, in increasing order.
func absent(d *disk.Disk) []int {
	var l []int
	for n := range 12 {
		if slices.Contains(d.List(), segment.Hints(n)) && !slices.Contains(d.List(), file(n)) {
			l = append(l, n)
		}
	}
	return l
}

func TestAllShortRuns(t *testing.T) {
	t.Parallel()
	everything := slices.Repeat([]int{1000}, 20)
	steps := [][]call{
		{{kind: "Write", l: []api.Rec{put("a", "1"), put("b", "2")}}},
		{{kind: "Write", l: []api.Rec{gone("a"), put("c", "")}}},
		{{kind: "Write", l: []api.Rec{put("", "")}}},
		{{kind: "Rotate"}},
		{{kind: "Sync"}},
		{{kind: "Merge"}},
		{{kind: "Evict", n: 0}},
		{{kind: "Evict", n: 1}},
		{{kind: "Learn", n: 1, entries: []hint.Entry{{Key: "b", Off: 10, Len: 5, Seq: 2}}}},
		{{kind: "Fuse", n: 2}},
		{{kind: "Crash"}, {kind: "Open", n: 15}},
		{{kind: "Crash", numbers: everything}, {kind: "Open", n: 1000, numbers: []int{0}}},
	}
	for run := range len(steps) * len(steps) * len(steps) * len(steps) {
		w := newWorlds(110)
		w.make(t, call{kind: "Open", n: 40})
		for i := run; i > 0; i /= len(steps) {
			for _, c := range steps[i%len(steps)] {
				w.make(t, c)
			}
		}
		w.compare(t)
	}
}

// drawing draws calls; it remembers the bytes of segments that were evicted.
type drawing struct {
	*rand.Rand
	keys  int
	taken map[int]string
}

// draw draws always the same for a seed and a run. In every fourth run there are more keys than a batch has records.
func draw(seed, run int) *drawing {
	d := &drawing{rand.New(rand.NewPCG(uint64(seed), uint64(run))), 6, map[int]string{}}
	if run%4 == 3 {
		d.keys = 50
	}
	return d
}

// key is one of few.
func (d *drawing) key() string {
	n := d.IntN(d.keys)
	return strings.Repeat(string("abcdef"[n%6]), n/6+1)
}

// record is one of few keys; some are not valid.
func (d *drawing) record() api.Rec {
	r := api.Rec{Seq: d.Uint64N(100), Key: d.key(), Value: strings.Repeat("v", d.IntN(30))}
	if d.IntN(3) == 0 {
		r.Gone, r.Value = true, ""
	}
	switch d.IntN(60) {
	case 0:
		r.Key = ""
	case 1:
		r.Gone, r.Value = true, "v"
	}
	return r
}

func (d *drawing) records(most int) []api.Rec {
	l := make([]api.Rec, d.IntN(most+1))
	for i := range l {
		l[i] = d.record()
	}
	return l
}

// entries are those of a segment's file, of which some are changed.
func (d *drawing) entries(on *disk.Disk, n int) []hint.Entry {
	b, ok := bytesOf(on, file(n))
	if !ok {
		b = d.taken[n]
	}
	l, _ := hint.Of(b)
	for i := range l {
		switch d.IntN(12) {
		case 0:
			l[i].Seq++
		case 1:
			l[i].Gone = !l[i].Gone
		case 2:
			l[i].Off -= 5
		}
	}
	return l[:d.IntN(len(l)+1)]
}

// opening are a crash, and an Open behind it: mostly of all segments that have only index files, in some order.
func (d *drawing) opening(on *disk.Disk) []call {
	kept := make([]int, d.IntN(20))
	for i := range kept {
		kept[i] = d.IntN(60)
	}
	l := []call{{kind: "Crash", numbers: kept}}
	if d.IntN(8) == 0 {
		l = append(l, call{kind: "Append", name: file(d.IntN(8)), b: "torn\x00"[d.IntN(5):]})
	}
	if d.IntN(8) == 0 {
		l = append(l, call{kind: "Fuse", n: d.IntN(2)})
	}
	far := absent(on)
	d.Shuffle(len(far), func(i, k int) { far[i], far[k] = far[k], far[i] })
	switch d.IntN(10) {
	case 0:
		far = append(far, d.IntN(12)-1)
	case 1:
		far = append(far, far...)
	case 2:
		far = far[:d.IntN(len(far)+1)]
	}
	most := []int{1, 20, 60, 200, 1 << 20}[d.IntN(5)]
	if d.IntN(40) == 0 {
		most = 0
	}
	return append(l, call{kind: "Open", n: most, numbers: far})
}

// calls are the next ones, mostly one.
func (d *drawing) calls(on *disk.Disk) []call {
	n := d.IntN(8)
	switch i := d.IntN(100); {
	case i < 50:
		return []call{{kind: "Write", l: d.records(d.keys/4 + 4)}}
	case i < 57:
		return []call{{kind: "Sync"}}
	case i < 67:
		return []call{{kind: "Rotate"}}
	case i < 75:
		return []call{{kind: "Merge"}}
	case i < 80:
		if b, ok := bytesOf(on, file(n)); ok {
			d.taken[n] = b
		}
		return []call{{kind: "Evict", n: n}}
	case i < 84:
		if b, ok := d.taken[n]; ok && !slices.Contains(on.List(), file(n)) {
			return []call{{kind: "Append", name: file(n), b: b}}
		}
	case i < 90:
		return []call{{kind: "Learn", n: n, entries: d.entries(on, n)}}
	case i < 92:
		return []call{{kind: "Fuse", n: d.IntN(6)}}
	}
	return d.opening(on)
}

func TestDrawnRuns(t *testing.T) {
	t.Parallel()
	for run := range 500 {
		d := draw(1, run)
		w := newWorlds(100 + d.IntN(50*d.keys+1000))
		w.make(t, call{kind: "Open", n: 1 + d.IntN(100)})
		for range 60 {
			for _, c := range d.calls(w.ours.d) {
				w.make(t, c)
			}
			w.compare(t)
		}
	}
}

func TestTheSameCallsHaveTheSameResults(t *testing.T) {
	var first string
	for again := range 4 {
		d, w := draw(2, 0), ours(2000)
		var told strings.Builder
		fmt.Fprintln(&told, call{kind: "Open", n: 50}.on(w))
		for range 400 {
			for _, c := range d.calls(w.d) {
				fmt.Fprintln(&told, c.kind, c.on(w), reads(w.s), files(w.d))
			}
		}
		if again == 0 {
			first = told.String()
		}
		wantText(t, "again", told.String(), first)
	}
}

// P16.5

// contents are the live keys, with their values.
type contents map[string]string

// history is what the Writes that returned OK came to, one by one, of which so many are sure.
type history struct {
	states []contents
	sure   int
}

func newHistory() *history {
	return &history{states: []contents{{}}}
}

// write adds a Write that returned OK.
func (h *history) write(l []api.Rec) {
	next := maps.Clone(h.states[len(h.states)-1])
	for _, r := range l {
		if r.Gone {
			delete(next, r.Key)
		} else {
			next[r.Key] = r.Value
		}
	}
	h.states = append(h.states, next)
}

// read are the contents that a store tells, which must do so in each way.
func read(t *testing.T, s *store.Store) contents {
	t.Helper()
	l, err := s.Scan("", 1000000)
	wantErr(t, "Scan", err, api.OK)
	all := contents{}
	for _, r := range l {
		all[r.Key] = r.Value
		wantGet(t, s, r.Key, r.Value, api.OK)
	}
	wantNumber(t, "Len", s.Len(), len(l))
	wantKeys(t, "Keys", s.Keys("", 1000000), slices.Sorted(maps.Keys(all))...)
	return all
}

// wantLast complains if a store does not tell what all Writes came to.
func (h *history) wantLast(t *testing.T, s *store.Store) {
	t.Helper()
	if got, want := read(t, s), h.states[len(h.states)-1]; !maps.Equal(got, want) {
		t.Fatalf("%v, want %v", got, want)
	}
}

// crashed goes on from what a store tells behind a crash, and complains if that is not what a beginning of the Writes came to, with all that are sure.
func (h *history) crashed(t *testing.T, what any, s *store.Store) {
	t.Helper()
	got := read(t, s)
	for n := len(h.states) - 1; n >= h.sure; n-- {
		if maps.Equal(got, h.states[n]) {
			h.states, h.sure = h.states[:n+1], n
			return
		}
	}
	t.Fatalf("%+v: behind a crash %v; want one of %v", what, got, h.states[h.sure:])
}

// makes makes a call of a store, and adds what it comes to; it tells whether there is still power.
func (h *history) makes(t *testing.T, s *store.Store, c call) bool {
	t.Helper()
	var err api.Errno
	switch c.kind {
	case "Write":
		if err = s.Write(c.l); err == api.OK {
			h.write(c.l)
		}
	case "Sync":
		err = s.Sync()
	case "Rotate":
		err = s.Rotate()
	case "Merge":
		err = s.Merge()
	}
	if c.kind != "Write" && err == api.OK {
		// Rotate and Merge sync too.
		h.sure = len(h.states) - 1
	}
	h.wantLast(t, s)
	return err != api.ErrDown
}

// reopened opens a store, whatever it takes: if the power goes once more, it crashes once more.
func reopened(t *testing.T, d *disk.Disk, most int) *store.Store {
	t.Helper()
	s, err := store.Open(d, most, nil)
	if err == api.ErrDown {
		d.Crash(nil)
		s, err = store.Open(d, most, nil)
	}
	if s == nil || err != api.OK {
		t.Fatalf("Open: %v, %d", s, err)
	}
	return s
}

// A run with few calls, with the power gone at each place, and each number of bytes kept.
func TestACrashAtEachPlace(t *testing.T) {
	t.Parallel()
	w := func(l ...api.Rec) call { return call{kind: "Write", l: l} }
	do := func(kind string) call { return call{kind: kind} }
	for _, l := range [][]call{
		{w(put("a", "1")), w(put("b", "2"), gone("a")), w(put("c", "3")), do("Sync"), w(put("a", "4"), put("d", "5")), w(gone("b")), w(put("b", "6"))},
		{w(put("a", "1"), put("b", "2")), do("Rotate"), w(gone("a"), put("c", "3")), do("Merge"), w(put("a", "4")), w(gone("c")), do("Merge"), w(put("c", "5"), put("e", "6"))},
		{w(put("a", "1")), w(gone("a")), do("Merge"), w(put("b", "2")), do("Sync"), w(gone("b")), do("Merge"), w(put("a", "3")), do("Merge"), w(gone("a")), do("Rotate")},
	} {
		for _, most := range []int{1, 20, 1000} {
			for fuse := range 30 {
				for kept := range 50 {
					d := newDisk(t, 1000)
					s := openOn(t, d, most)
					h := newHistory()
					d.Fuse(fuse)
					for _, c := range l {
						if !h.makes(t, s, c) {
							break
						}
					}
					d.Crash(slices.Repeat([]int{kept}, 20))
					d.Fuse(fuse % 3)
					h.crashed(t, []any{l, most, fuse, kept}, reopened(t, d, most))
				}
			}
		}
	}
}

// script are calls with new values; most of them are Writes.
func (d *drawing) script(size, seed int) []call {
	var l []call
	for i := range size {
		c := call{kind: []string{"Write", "Write", "Write", "Write", "Write", "Sync", "Rotate", "Merge"}[d.IntN(8)]}
		if c.kind == "Write" {
			for k := range 1 + d.IntN(d.keys/4+3) {
				r := put(d.key(), fmt.Sprint(seed, ".", i, ".", k, strings.Repeat("x", d.IntN(12))))
				if d.IntN(3) == 0 {
					r = gone(r.Key)
				}
				c.l = append(c.l, r)
			}
		}
		l = append(l, c)
	}
	return l
}

// Crash behind crash, with the same disk.
func TestCrashesOfDrawnScripts(t *testing.T) {
	t.Parallel()
	lost, torn := 0, 0
	for run := range 1200 {
		d := draw(3, run)
		on := newDisk(t, 200+d.IntN(500*d.keys))
		h := newHistory()
		for life := range 8 {
			most := []int{1, 30, 100, 1000}[d.IntN(4)]
			s := reopened(t, on, most)
			h.crashed(t, run, s)
			if d.IntN(2) == 0 {
				on.Fuse(d.IntN(25))
			}
			for _, c := range d.script(d.IntN(25), life) {
				if !h.makes(t, s, c) {
					break
				}
			}
			kept := make([]int, d.IntN(20))
			for i := range kept {
				kept[i] = d.IntN(10*d.keys+20) - 5
			}
			on.Crash(kept)
			before, writes := files(on), len(h.states)
			if d.IntN(3) == 0 {
				on.Fuse(d.IntN(3))
			}
			h.crashed(t, run, reopened(t, on, most))
			lost += writes - len(h.states)
			if files(on) != before {
				torn++
			}
			// Each Open tells the same.
			h.sure = len(h.states) - 1
			h.crashed(t, run, reopened(t, on, most))
		}
	}
	if lost < 1000 || torn < 1000 {
		t.Errorf("only %d writes were lost, and %d files torn", lost, torn)
	}
}

// Merges in the midst of a run change nothing that is read, nor does an Open anew.
func TestMergesAreNotToBeSeen(t *testing.T) {
	for run := range 300 {
		d := draw(4, run)
		on := newDisk(t, roomy)
		s := openOn(t, on, 1+d.IntN(200))
		h := newHistory()
		for range 60 {
			l := d.records(16)
			if s.Write(l) == api.OK {
				h.write(l)
			}
			if d.IntN(10) == 0 {
				before, err := s.Scan("", 100)
				wantErr(t, "Scan", err, api.OK)
				wantErr(t, "Rotate", s.Rotate(), api.OK)
				if len(on.List()) > 0 {
					wantErr(t, "Merge", s.Merge(), api.OK)
				}
				wantLive(t, s, before...)
				if d.IntN(2) == 0 {
					s = openOn(t, on, 1+d.IntN(200))
					wantLive(t, s, before...)
				}
			}
			h.wantLast(t, s)
		}
	}
}

// scripted are calls that bytes stand for, two bytes each.
func scripted(t *testing.T, b []byte) {
	w := newWorlds(1500)
	w.make(t, call{kind: "Open", n: 50})
	for ; len(b) >= 2; b = b[2:] {
		for _, c := range draw(int(b[0]), int(b[1])).calls(w.ours.d) {
			w.make(t, c)
		}
		w.compare(t)
	}
}

func FuzzScripts(f *testing.F) {
	f.Add([]byte("\x01\x02\x03\x04\x05\x06\x07\x08"))
	f.Add([]byte("the key-value store on a disk"))
	f.Fuzz(func(t *testing.T, b []byte) {
		scripted(t, b[:min(len(b), 200)])
	})
}
