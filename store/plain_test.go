package store_test

import (
	"fmt"
	"maps"
	"slices"
	"strings"

	"thwart/api"
	"thwart/disk"
	"thwart/frame"
	"thwart/hint"
	"thwart/segment"
)

// keeper is what a store and its plain counterpart can do.
type keeper interface {
	Learn(n int, l []hint.Entry)
	Write(l []api.Rec) api.Errno
	Get(key string) (string, api.Errno)
	Scan(from string, most int) ([]api.Rec, api.Errno)
	Sync() api.Errno
	Rotate() api.Errno
	Merge() api.Errno
	Where(key string) (api.Loc, bool)
	Keys(from string, most int) []string
	Segments() []int
	Len() int
}

// known is a record that was read or written: where it is, and whether it is a deletion.
type known struct {
	key  string
	at   api.Loc
	gone bool
}

// plainStore follows the chapter's words, with all records that it ever knew in a list, in the order in which they were read or written.
type plainStore struct {
	d      *disk.Disk
	most   int
	all    []known
	active int
	elder  bool
}

// plainOpen follows the words of Open.
func plainOpen(d *disk.Disk, most int, far []int) (*plainStore, api.Errno) {
	if d == nil || most < 1 || most > 1<<20 {
		return nil, api.ErrArg
	}
	for _, n := range far {
		if n < 0 || n > 999999 || slices.Contains(d.List(), file(n)) {
			return nil, api.ErrArg
		}
	}
	p := &plainStore{d: d, most: most, elder: len(far) > 0}
	here := segment.All(d)
	for _, n := range here {
		l, err := segment.Load(d, n)
		if err != api.OK {
			return nil, err
		}
		p.know(n, l)
	}
	for _, n := range far {
		l, err := segment.Told(d, n)
		if err != api.OK {
			return nil, err
		}
		p.know(n, l)
	}
	for _, n := range append(here, far...) {
		if n < 500000 && n >= p.active {
			p.active = n + 1
		}
	}
	return p, api.OK
}

// file is the name of a segment's file.
func file(n int) string {
	return fmt.Sprintf("s%06d", n)
}

// bytesOf are those of a file, if it exists.
func bytesOf(d *disk.Disk, name string) (string, bool) {
	size, err := d.Size(name)
	b, _ := d.Read(name, 0, size)
	return b, err == api.OK
}

func (p *plainStore) know(n int, l []hint.Entry) {
	for _, e := range l {
		p.all = append(p.all, known{e.Key, at(n, e), e.Gone})
	}
}

// at is the position that an entry tells, in segment n.
func at(n int, e hint.Entry) api.Loc {
	return api.Loc{Seg: n, Off: e.Off, Len: e.Len, Seq: e.Seq}
}

// find is the place, in the list, of a live key's record, or -1.
func (p *plainStore) find(key string) int {
	found := -1
	for i, k := range p.all {
		if k.key == key && (found < 0 || k.at.Seq >= p.all[found].at.Seq) {
			found = i
		}
	}
	if found >= 0 && p.all[found].gone {
		return -1
	}
	return found
}

func (p *plainStore) Learn(n int, l []hint.Entry) {
	p.elder = true
	for _, e := range l {
		if i := p.find(e.Key); !e.Gone && i >= 0 && p.all[i].at.Seq == e.Seq {
			p.all[i].at = at(n, e)
		}
	}
}

func (p *plainStore) Write(l []api.Rec) api.Errno {
	if b, _ := bytesOf(p.d, file(p.active)); len(b) >= p.most {
		if err := p.Rotate(); err != api.OK {
			return err
		}
	}
	last := uint64(0)
	for _, k := range p.all {
		last = max(last, k.at.Seq)
	}
	var numbered []api.Rec
	for i, r := range l {
		numbered = append(numbered, api.Rec{Seq: last + uint64(i+1), Key: r.Key, Value: r.Value, Gone: r.Gone})
	}
	entries, err := segment.Write(p.d, p.active, numbered...)
	if err != api.OK {
		return err
	}
	p.know(p.active, entries)
	return api.OK
}

// plainRecord is the record of a key that is live, and whose file exists.
func (p *plainStore) plainRecord(key string) (api.Rec, api.Errno) {
	l, ok := p.Where(key)
	if !ok || !slices.Contains(p.d.List(), file(l.Seg)) {
		return api.Rec{}, api.ErrNone
	}
	return segment.Get(p.d, l.Seg, hint.Entry{Key: key, Off: l.Off, Len: l.Len, Seq: l.Seq})
}

func (p *plainStore) Get(key string) (string, api.Errno) {
	r, err := p.plainRecord(key)
	return r.Value, err
}

func (p *plainStore) Scan(from string, most int) ([]api.Rec, api.Errno) {
	if most < 0 {
		return nil, api.ErrArg
	}
	var l []api.Rec
	for _, key := range p.Keys(from, most) {
		r, err := p.plainRecord(key)
		if err != api.OK {
			return nil, err
		}
		l = append(l, r)
	}
	return l, api.OK
}

func (p *plainStore) Sync() api.Errno {
	if !slices.Contains(p.d.List(), file(p.active)) {
		return api.OK
	}
	return p.d.Sync(file(p.active))
}

func (p *plainStore) Rotate() api.Errno {
	if !slices.Contains(p.d.List(), file(p.active)) {
		return api.OK
	}
	if err := p.d.Sync(file(p.active)); err != api.OK {
		return err
	}
	p.active++
	return api.OK
}

// newest are the records of segments that a merge keeps, in increasing order of their keys.
func (p *plainStore) newest(segments []int) []api.Rec {
	newest := map[string]api.Rec{}
	for _, n := range segments {
		b, _ := bytesOf(p.d, file(n))
		batches, _ := frame.Scan(b)
		for _, r := range slices.Concat(batches...) {
			if r.Seq >= newest[r.Key].Seq {
				newest[r.Key] = r
			}
		}
	}
	var l []api.Rec
	for _, key := range slices.Sorted(maps.Keys(newest)) {
		if r := newest[key]; p.elder || !r.Gone {
			l = append(l, r)
		}
	}
	return l
}

func (p *plainStore) Merge() api.Errno {
	if err := p.Rotate(); err != api.OK {
		return err
	}
	old := segment.All(p.d)
	if len(old) == 0 {
		return api.ErrNone
	}
	merged := p.active
	var written []hint.Entry
	for l := p.newest(old); len(l) > 0; l = l[min(16, len(l)):] {
		entries, err := segment.Write(p.d, merged, l[:min(16, len(l))]...)
		if err == api.ErrFull {
			p.d.Remove(file(merged))
		}
		if err != api.OK {
			return err
		}
		written = append(written, entries...)
	}
	if err := p.Rotate(); err != api.OK {
		return err
	}
	for _, e := range written {
		i := p.find(e.Key)
		if i >= 0 && !e.Gone && p.all[i].at.Seq == e.Seq && slices.Contains(old, p.all[i].at.Seg) {
			p.all[i].at = at(merged, e)
		}
	}
	for _, n := range old {
		if err := p.d.Remove(file(n)); err != api.OK {
			return err
		}
	}
	return api.OK
}

func (p *plainStore) Where(key string) (api.Loc, bool) {
	i := p.find(key)
	if i < 0 {
		return api.Loc{}, false
	}
	return p.all[i].at, true
}

func (p *plainStore) Keys(from string, most int) []string {
	var l []string
	for _, k := range p.all {
		if k.key >= from && p.find(k.key) >= 0 && !slices.Contains(l, k.key) {
			l = append(l, k.key)
		}
	}
	slices.Sort(l)
	return l[:min(len(l), max(most, 0))]
}

func (p *plainStore) Segments() []int {
	l := segment.All(p.d)
	if !slices.Contains(l, p.active) {
		l = append(l, p.active)
	}
	slices.Sort(l)
	return l
}

func (p *plainStore) Len() int {
	return len(p.Keys("", len(p.all)))
}

// world is a disk, and the store that was opened on it last, or nil if it could not be.
type world struct {
	d    *disk.Disk
	open func(d *disk.Disk, most int, far []int) (keeper, api.Errno)
	s    keeper
}

// ours and plain are worlds with an empty disk: one of the package's stores, and one of those that follow the chapter's words.
func ours(room int) *world {
	d, _ := disk.New(room)
	return &world{d: d, open: opened}
}

func plain(room int) *world {
	d, _ := disk.New(room)
	return &world{d: d, open: func(d *disk.Disk, most int, far []int) (keeper, api.Errno) {
		p, err := plainOpen(d, most, far)
		if p == nil {
			return nil, err
		}
		return p, err
	}}
}

// call is one call of a store or of its disk, with its arguments; those that it does not have are zero.
type call struct {
	kind, name, b string
	n             int
	l             []api.Rec
	entries       []hint.Entry
	numbers       []int
}

// on makes the call, and tells its results.
func (c call) on(w *world) string {
	switch c.kind {
	case "Open":
		s, err := w.open(w.d, c.n, c.numbers)
		w.s = s
		return fmt.Sprint(s != nil, int(err))
	case "Crash":
		w.d.Crash(c.numbers)
	case "Fuse":
		w.d.Fuse(c.n)
	case "Append":
		return fmt.Sprint(int(w.d.Append(c.name, c.b)))
	case "Remove":
		return fmt.Sprint(int(w.d.Remove(c.name)))
	case "Cut":
		return fmt.Sprint(int(w.d.Cut(c.name, c.n)))
	case "Evict":
		return fmt.Sprint(int(segment.Seal(w.d, c.n)), int(w.d.Remove(file(c.n))))
	default:
		return c.onStore(w.s)
	}
	return ""
}

// onStore makes a call of the store, if there is one.
func (c call) onStore(s keeper) string {
	if s == nil {
		return "no store"
	}
	switch c.kind {
	case "Learn":
		s.Learn(c.n, c.entries)
	case "Write":
		return fmt.Sprint(int(s.Write(c.l)))
	case "Sync":
		return fmt.Sprint(int(s.Sync()))
	case "Rotate":
		return fmt.Sprint(int(s.Rotate()))
	case "Merge":
		return fmt.Sprint(int(s.Merge()))
	default:
		panic(c.kind)
	}
	return ""
}

// files tells all files of a disk, and what is left.
func files(d *disk.Disk) string {
	var b strings.Builder
	fmt.Fprintf(&b, "left %d", d.Left())
	for _, name := range d.List() {
		all, _ := bytesOf(d, name)
		fmt.Fprintf(&b, "\n%s: %x", name, all)
	}
	return b.String()
}

// reads tells what all calls that only read return.
func reads(s keeper) string {
	if s == nil {
		return "no store"
	}
	var b strings.Builder
	fmt.Fprintln(&b, s.Len(), s.Segments())
	for _, from := range []string{"", "b\x00", "d"} {
		for _, most := range []int{-1, 1, 2, 1000000} {
			l, err := s.Scan(from, most)
			fmt.Fprintf(&b, "%q %d: %q %+v %d\n", from, most, s.Keys(from, most), l, int(err))
		}
	}
	for _, key := range append(s.Keys("", 1000000), "", "a", "b", "c", "never") {
		v, err := s.Get(key)
		l, ok := s.Where(key)
		fmt.Fprintf(&b, "%q: %q %d %+v %t\n", key, v, int(err), l, ok)
	}
	return b.String()
}
