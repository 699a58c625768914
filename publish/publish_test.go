package publish_test

import (
	"fmt"
	"maps"
	"math"
	"math/big"
	"math/rand/v2"
	"slices"
	"strings"
	"testing"

	"thwart/api"
	"thwart/crc"
	"thwart/manifest"
	"thwart/publish"
	"thwart/remote"
	"thwart/varint"
)

// objects are those of a remote, by their names.
type objects map[string]string

// plainRemote follows chapter 7, and writes down its calls.
type plainRemote struct {
	objects objects
	script  []int
	calls   []string
}

// call tells whether a call has its effect, and whether its answer arrives.
func (p *plainRemote) call(words string) (effect, arrives bool) {
	p.calls = append(p.calls, words)
	fate := 0
	if len(p.script) > 0 {
		fate, p.script = p.script[0], p.script[1:]
	}
	return fate != 1, fate != 1 && fate != 2
}

func (p *plainRemote) put(name, b string) api.Errno {
	effect, arrives := p.call("Put " + name)
	if effect {
		p.objects[name] = b
	}
	if !arrives {
		return api.ErrFar
	}
	return api.OK
}

func (p *plainRemote) putNew(name, b string) api.Errno {
	effect, arrives := p.call("PutNew " + name)
	_, there := p.objects[name]
	if effect && !there {
		p.objects[name] = b
	}
	switch {
	case !arrives:
		return api.ErrFar
	case there:
		return api.ErrTwice
	}
	return api.OK
}

func (p *plainRemote) get(name string) (string, api.Errno) {
	_, arrives := p.call("Get " + name)
	b, there := p.objects[name]
	switch {
	case !arrives:
		return "", api.ErrFar
	case !there:
		return "", api.ErrNone
	}
	return b, api.OK
}

func (p *plainRemote) remove(name string) api.Errno {
	effect, arrives := p.call("Delete " + name)
	if effect {
		delete(p.objects, name)
	}
	if !arrives {
		return api.ErrFar
	}
	return api.OK
}

func (p *plainRemote) list() ([]string, api.Errno) {
	if _, arrives := p.call("List"); !arrives {
		return nil, api.ErrFar
	}
	return slices.Sorted(maps.Keys(p.objects)), api.OK
}

// plainNumber is the number whose name begins with this letter, if there is one from least to 999999.
func plainNumber(letter, name string, least int) (int, bool) {
	if len(name) != 7 || name[:1] != letter || strings.Trim(name[1:], "0123456789") != "" {
		return 0, false
	}
	n := 0
	for _, digit := range name[1:] {
		n = 10*n + int(digit-'0')
	}
	return n, n >= least
}

// plainLatest follows the words of Latest.
func plainLatest(p *plainRemote) (manifest.Manifest, api.Errno) {
	names, err := p.list()
	if err != api.OK {
		return manifest.Manifest{}, err
	}
	var versions []int
	for _, name := range names {
		if version, ok := plainNumber("m", name, 1); ok {
			versions = append(versions, version)
		}
	}
	slices.SortFunc(versions, func(a, b int) int { return b - a })
	for _, version := range versions {
		b, err := p.get(fmt.Sprintf("m%06d", version))
		if err == api.ErrFar {
			return manifest.Manifest{}, api.ErrFar
		}
		m, wrong := manifest.Read(b)
		if err == api.OK && wrong == api.OK && m.Version == version {
			return m, api.OK
		}
	}
	return manifest.Manifest{}, api.ErrNone
}

// plainNext follows the words of Next.
func plainNext(p *plainRemote, version int, segs []manifest.Seg) (manifest.Manifest, api.Errno) {
	if version < 0 || version > 999998 || !manifest.Right(manifest.Manifest{Version: 1, Segs: segs}) {
		return manifest.Manifest{}, api.ErrArg
	}
	next := manifest.Manifest{Version: version + 1, Segs: segs}
	b, _ := manifest.Bytes(next)
	name := fmt.Sprintf("m%06d", version+1)
	err := p.putNew(name, b)
	if err == api.OK {
		return next, api.OK
	}
	if there, wrong := p.get(name); wrong == api.OK && there == b {
		return next, api.OK
	}
	return manifest.Manifest{}, err
}

// plainUpload follows the words of Upload.
func plainUpload(p *plainRemote, n int, b string) (manifest.Seg, api.Errno) {
	if n < 0 || n > 999999 || len(b) > 1<<20 {
		return manifest.Seg{}, api.ErrArg
	}
	name := fmt.Sprintf("o%06d", n)
	p.put(name, b)
	there, err := p.get(name)
	switch {
	case err != api.OK:
		return manifest.Seg{}, err
	case there != b:
		return manifest.Seg{}, api.ErrSum
	}
	return manifest.Seg{N: n, Size: len(b), Sum: crc.Sum(b)}, api.OK
}

// plainFetch follows the words of Fetch.
func plainFetch(p *plainRemote, s manifest.Seg) (string, api.Errno) {
	name := ""
	if s.N >= 0 && s.N <= 999999 {
		name = fmt.Sprintf("o%06d", s.N)
	}
	b, err := p.get(name)
	switch {
	case err != api.OK:
		return "", err
	case s.Size != len(b) || s.Sum != crc.Sum(b):
		return "", api.ErrSum
	}
	return b, api.OK
}

// plainWasted follows the words of Waste for one name, in unbounded integers.
func plainWasted(name string, m manifest.Manifest) bool {
	if version, ok := plainNumber("m", name, 1); ok {
		before := new(big.Int).Sub(big.NewInt(int64(m.Version)), big.NewInt(1))
		return big.NewInt(int64(version)).Cmp(before) < 0
	}
	n, ok := plainNumber("o", name, 0)
	return ok && !slices.ContainsFunc(m.Segs, func(s manifest.Seg) bool { return s.N == n })
}

// plainWaste follows the words of Waste.
func plainWaste(names []string, m manifest.Manifest) []string {
	wasted := objects{}
	for _, name := range names {
		if plainWasted(name, m) {
			wasted[name] = ""
		}
	}
	return slices.Sorted(maps.Keys(wasted))
}

// call is one call of the package or of the remote, with its arguments; those that the function does not have are zero.
type call struct {
	kind, name, b string
	n             int
	segs          []manifest.Seg
	script        []int
}

// on makes the call, and tells its results.
func (c call) on(r *remote.Remote) string {
	switch c.kind {
	case "Latest":
		return told(publish.Latest(r))
	case "Next":
		return told(publish.Next(r, manifest.Manifest{Version: c.n}, c.segs))
	case "Upload":
		return told(publish.Upload(r, c.n, c.b))
	case "Fetch":
		return told(publish.Fetch(r, c.segs[0]))
	case "Put":
		return fmt.Sprint(int(r.Put(c.name, c.b)))
	case "Delete":
		return fmt.Sprint(int(r.Delete(c.name)))
	default:
		r.Script(c.script)
		return ""
	}
}

// plain makes the call as the chapters' words have it.
func (c call) plain(p *plainRemote) string {
	switch c.kind {
	case "Latest":
		return told(plainLatest(p))
	case "Next":
		return told(plainNext(p, c.n, c.segs))
	case "Upload":
		return told(plainUpload(p, c.n, c.b))
	case "Fetch":
		return told(plainFetch(p, c.segs[0]))
	case "Put":
		return fmt.Sprint(int(p.put(c.name, c.b)))
	case "Delete":
		return fmt.Sprint(int(p.remove(c.name)))
	default:
		p.script = c.script
		return ""
	}
}

// told shows a result and an error.
func told(result any, err api.Errno) string {
	return fmt.Sprintf("%+v %d", result, err)
}

// with is a remote with these objects.
func with(all objects) *remote.Remote {
	r := remote.New()
	for name, b := range all {
		r.Put(name, b)
	}
	return r
}

// contents are the objects of a remote, whose script is dropped.
func contents(t *testing.T, r *remote.Remote) objects {
	t.Helper()
	r.Script(nil)
	names, err := r.List()
	if err != api.OK {
		t.Fatalf("List returned %d", err)
	}
	all := objects{}
	for _, name := range names {
		if all[name], err = r.Get(name); err != api.OK {
			t.Fatalf("Get(%q) returned %d", name, err)
		}
	}
	return all
}

// same complains if a run of calls differs from what the chapters' words have, in a result, in the number of calls of the remote, or in the objects.
func same(t *testing.T, before objects, l ...call) {
	t.Helper()
	r, p := with(before), &plainRemote{objects: maps.Clone(before)}
	made := r.Calls()
	for i, c := range l {
		behind := len(p.calls)
		if got, want := c.on(r), c.plain(p); got != want {
			t.Fatalf("call %d of %+v: %s, want %s", i, l, got, want)
		}
		if r.Calls()-made != len(p.calls) {
			t.Fatalf("%d calls of the remote behind call %d of %+v, want %d: the last ones are %q", r.Calls()-made, i, l, len(p.calls), p.calls[behind:])
		}
	}
	if got := contents(t, r); !maps.Equal(got, p.objects) {
		t.Fatalf("behind %+v: %q, want %q", l, got, p.objects)
	}
}

// sameUnderAllFates is same for one call, with all fates of the first calls of the remote that it makes.
func sameUnderAllFates(t *testing.T, before objects, c call, calls int) {
	t.Helper()
	for _, script := range scripts(calls) {
		same(t, before, call{kind: "Script", script: script}, c)
	}
}

// scripts are all of so many fates.
func scripts(size int) [][]int {
	if size == 0 {
		return [][]int{nil}
	}
	var l [][]int
	for _, script := range scripts(size - 1) {
		for _, fate := range []int{remote.Fine, remote.Lost, remote.Late} {
			l = append(l, append(slices.Clone(script), fate))
		}
	}
	return l
}

// segs are valid, of many kinds, with rising numbers.
func segs(size int) []manifest.Seg {
	l := make([]manifest.Seg, size)
	for i := range l {
		l[i] = manifest.Seg{N: i*i*17 + i + 5, Size: i * 5279 % (1<<20 + 1), Sum: uint32(i) * 2654435761}
	}
	return l
}

// numbered are segments with these numbers.
func numbered(l ...int) []manifest.Seg {
	var all []manifest.Seg
	for _, n := range l {
		all = append(all, manifest.Seg{N: n, Size: 300, Sum: 1})
	}
	return all
}

// rising are all numbers from first on, size of them.
func rising(first, size int) []int {
	l := make([]int, size)
	for i := range l {
		l[i] = first + i
	}
	return l
}

// of is a manifest of a version; each has other segments.
func of(version int) manifest.Manifest {
	return manifest.Manifest{Version: version, Segs: []manifest.Seg{{N: version % 7, Size: version, Sum: uint32(version)}, {N: 7}}}
}

// bytes are those of a manifest, which must be valid.
func bytes(t *testing.T, m manifest.Manifest) string {
	t.Helper()
	b, err := manifest.Bytes(m)
	if err != api.OK {
		t.Fatalf("Bytes(%+v) returned %d", m, err)
	}
	return b
}

// put puts the manifests of these versions, in this order.
func put(t *testing.T, r *remote.Remote, versions ...int) {
	t.Helper()
	for _, version := range versions {
		r.Put(manifest.Name(version), bytes(t, of(version)))
	}
}

// equal tells whether manifests are; nil and empty Segs are.
func equal(m, n manifest.Manifest) bool {
	return m.Version == n.Version && slices.Equal(m.Segs, n.Segs)
}

// checkCalls tells that what is done makes so many calls of r.
func checkCalls(t *testing.T, name string, r *remote.Remote, calls int, done func()) {
	t.Helper()
	before := r.Calls()
	done()
	if got := r.Calls() - before; got != calls {
		t.Errorf("%s: %d calls, want %d", name, got, calls)
	}
}

// checkLatest tells what Latest returns, and how many calls it makes.
func checkLatest(t *testing.T, name string, r *remote.Remote, want manifest.Manifest, wantErr api.Errno, calls int) {
	t.Helper()
	checkCalls(t, name, r, calls, func() {
		t.Helper()
		if m, err := publish.Latest(r); !equal(m, want) || err != wantErr {
			t.Errorf("%s: Latest = %+v, %d; want %+v, %d", name, m, err, want, wantErr)
		}
	})
}

// checkNext tells that Next returns a manifest of the next version with these segments, or that error, and how many calls it makes.
func checkNext(t *testing.T, name string, r *remote.Remote, m manifest.Manifest, l []manifest.Seg, wantErr api.Errno, calls int) {
	t.Helper()
	want := manifest.Manifest{}
	if wantErr == api.OK {
		want = manifest.Manifest{Version: m.Version + 1, Segs: l}
	}
	checkCalls(t, name, r, calls, func() {
		t.Helper()
		if next, err := publish.Next(r, m, l); !equal(next, want) || err != wantErr {
			t.Errorf("%s: Next = %+v, %d; want %+v, %d", name, next, err, want, wantErr)
		}
	})
}

// checkUpload tells that Upload returns what manifest.Of does, or that error, and how many calls it makes.
func checkUpload(t *testing.T, name string, r *remote.Remote, n int, b string, wantErr api.Errno, calls int) {
	t.Helper()
	want := manifest.Seg{}
	if wantErr == api.OK {
		want = manifest.Of(n, b)
	}
	checkCalls(t, name, r, calls, func() {
		t.Helper()
		if s, err := publish.Upload(r, n, b); s != want || err != wantErr {
			t.Errorf("%s: Upload = %+v, %d; want %+v, %d", name, s, err, want, wantErr)
		}
	})
}

// checkFetch tells what Fetch returns, and that it makes one call.
func checkFetch(t *testing.T, name string, r *remote.Remote, s manifest.Seg, want string, wantErr api.Errno) {
	t.Helper()
	checkCalls(t, name, r, 1, func() {
		t.Helper()
		if b, err := publish.Fetch(r, s); b != want || err != wantErr {
			t.Errorf("%s: Fetch(%+v) = %.40q, %d; want %.40q, %d", name, s, b, err, want, wantErr)
		}
	})
}

// checkObjects tells which objects a remote has.
func checkObjects(t *testing.T, name string, r *remote.Remote, want objects) {
	t.Helper()
	if got := contents(t, r); !maps.Equal(got, want) {
		t.Errorf("%s: the objects are %.200q, want %.200q", name, got, want)
	}
}

// checkWaste tells what Waste returns, and that the names stay as they are.
func checkWaste(t *testing.T, names []string, m manifest.Manifest, want ...string) {
	t.Helper()
	before := slices.Clone(names)
	if got := publish.Waste(names, m); !slices.Equal(got, want) {
		t.Errorf("Waste(%.300q, %+v) = %.300q, want %.300q", names, m, got, want)
	}
	if !slices.Equal(names, before) {
		t.Errorf("%.300q have become %.300q", before, names)
	}
	if plain := plainWaste(names, m); !slices.Equal(plain, want) {
		t.Errorf("plainWaste errs: %.300q, want %.300q", plain, want)
	}
}

// foreign are names that are no version's.
func foreign() []string {
	return []string{
		"", "m", "o", "z", "manifest", "m000000", "m00001", "m0000001", "m1000000", "m1", "M000001", "n000001", "x000001", "m00000a", "m+00001", "m-00001", "m 00001", "m00001 ", " m00001",
		"m000001 ", " m000001", "mm000001", "m000001\x00", "m0x0001", "m0_0001", "m1e0000", "m00000\u0661", "s000001", "h000001", "o000001", "000001", "1", "\xffm000001",
	}
}

// spoilt are bytes that are no manifest of version 7.
func spoilt(t *testing.T) objects {
	t.Helper()
	right := bytes(t, of(7))
	segs := varint.Put(2) + varint.Put(0) + varint.Put(7) + varint.Put(7) + varint.Put(7) + varint.Put(0) + varint.Put(0)
	if crc.Seal(varint.Put(7)+segs) != right {
		t.Fatal("the encoding is not as it should be")
	}
	return objects{
		"no bytes":               "",
		"three bytes":            right[:3],
		"a checksum alone":       right[:4],
		"a byte less":            right[:len(right)-1],
		"a byte more":            right + "\x00",
		"another checksum":       "\x00\x00\x00\x00" + right[4:],
		"another byte":           right[:5] + "\x03" + right[6:],
		"words":                  "spoilt",
		"sealed nothing":         crc.Seal(""),
		"sealed words":           crc.Seal("spoilt"),
		"sealed version alone":   crc.Seal(varint.Put(7)),
		"sealed a byte more":     crc.Seal(right[4:] + "\x00"),
		"sealed a byte less":     crc.Seal(right[4 : len(right)-1]),
		"version 0":              crc.Seal(varint.Put(0) + segs),
		"a version too great":    crc.Seal(varint.Put(1000000) + segs),
		"a version of 64 bits":   crc.Seal(varint.Put(1<<32+7) + segs),
		"the version before":     bytes(t, manifest.Manifest{Version: 6, Segs: of(7).Segs}),
		"the version behind":     bytes(t, manifest.Manifest{Version: 8, Segs: of(7).Segs}),
		"the first version":      bytes(t, manifest.Manifest{Version: 1}),
		"the last version":       bytes(t, manifest.Manifest{Version: 999999}),
		"a segment's own object": strings.Repeat("batch", 100),
	}
}

// P13.1

func TestExampleOfNoManifest(t *testing.T) {
	checkLatest(t, "no objects", remote.New(), manifest.Manifest{}, api.ErrNone, 1)
}

func TestLatestOfOneVersion(t *testing.T) {
	for _, version := range []int{1, 2, 7, 9, 10, 500000, 999998, 999999} {
		for _, l := range [][]manifest.Seg{nil, segs(1), segs(200), numbered(0), numbered(999999)} {
			m := manifest.Manifest{Version: version, Segs: l}
			checkLatest(t, manifest.Name(version), with(objects{manifest.Name(version): bytes(t, m)}), m, api.OK, 2)
		}
	}
}

func TestLatestWithoutAList(t *testing.T) {
	for _, all := range []objects{{}, {"z": ""}, {"m000001": bytes(t, of(1))}, {"m000001": "spoilt"}} {
		for _, fate := range []int{remote.Lost, remote.Late} {
			r := with(all)
			r.Script([]int{fate})
			checkLatest(t, fmt.Sprintf("%q, fate %d", all, fate), r, manifest.Manifest{}, api.ErrFar, 1)
			checkObjects(t, "behind it", r, all)
		}
	}
}

func TestLatestOfNamesThatAreNoVersions(t *testing.T) {
	together := objects{}
	for _, name := range foreign() {
		together[name] = bytes(t, of(1))
		checkLatest(t, fmt.Sprintf("%q", name), with(objects{name: bytes(t, of(1))}), manifest.Manifest{}, api.ErrNone, 1)
	}
	checkLatest(t, "all of them", with(together), manifest.Manifest{}, api.ErrNone, 1)
	together["m000002"] = bytes(t, of(2))
	checkLatest(t, "all of them and a version", with(together), of(2), api.OK, 2)
	r := with(together)
	r.Script([]int{remote.Fine, remote.Lost})
	checkLatest(t, "all of them and a version that is not reachable", r, manifest.Manifest{}, api.ErrFar, 2)
	together["m000002"] = "spoilt"
	checkLatest(t, "all of them and a spoilt version", with(together), manifest.Manifest{}, api.ErrNone, 2)
}

func TestLatestOfVersionsPutInAnyOrder(t *testing.T) {
	versions := []int{1, 2, 9, 10, 99, 100, 123456, 500000, 999998, 999999}
	for i := range versions {
		r := remote.New()
		put(t, r, slices.Concat(versions[i:], versions[:i])...)
		checkLatest(t, fmt.Sprint("from ", versions[i]), r, of(999999), api.OK, 2)
		for last := len(versions) - 1; last >= 0; last-- {
			checkLatest(t, fmt.Sprint("up to ", versions[last]), r, of(versions[last]), api.OK, 2)
			r.Delete(manifest.Name(versions[last]))
		}
		checkLatest(t, "none left", r, manifest.Manifest{}, api.ErrNone, 1)
	}
}

func TestLatestOfEachPairOfVersions(t *testing.T) {
	versions := []int{1, 2, 8, 9, 10, 11, 19, 20, 90, 91, 99, 100, 109, 190, 901, 910, 999, 1000, 99999, 100000, 199999, 900000, 999999}
	for _, a := range versions {
		for _, b := range versions {
			r := remote.New()
			put(t, r, a, b)
			checkLatest(t, fmt.Sprint(a, " and ", b), r, of(max(a, b)), api.OK, 2)
		}
	}
}

func TestLatestIsNotReachable(t *testing.T) {
	for _, b := range []string{bytes(t, of(9)), "spoilt", "", bytes(t, of(8))} {
		for _, fate := range []int{remote.Lost, remote.Late} {
			r := remote.New()
			put(t, r, 3, 8)
			r.Put("m000009", b)
			r.Script([]int{remote.Fine, fate})
			checkLatest(t, fmt.Sprintf("%q, fate %d", b, fate), r, manifest.Manifest{}, api.ErrFar, 2)
		}
	}
}

func TestLatestIsNotReachableBehindSpoiltOnes(t *testing.T) {
	for spoiltOnes := range 4 {
		for _, fate := range []int{remote.Lost, remote.Late} {
			r := remote.New()
			put(t, r, 1, 2, 3, 4)
			for i := range spoiltOnes {
				r.Put(manifest.Name(10+i), "spoilt")
			}
			r.Script(append(make([]int, 1+spoiltOnes), fate))
			checkLatest(t, fmt.Sprintf("%d spoilt, fate %d", spoiltOnes, fate), r, manifest.Manifest{}, api.ErrFar, 2+spoiltOnes)
			checkLatest(t, fmt.Sprintf("%d spoilt, behind fate %d", spoiltOnes, fate), r, of(4), api.OK, 2+spoiltOnes)
		}
	}
}

func TestLatestIsGone(t *testing.T) {
	r := remote.New()
	put(t, r, 3, 8, 9)
	r.Delete("m000009")
	checkLatest(t, "9 is gone", r, of(8), api.OK, 2)
	r.Script([]int{remote.Late})
	r.Delete("m000008")
	checkLatest(t, "8 is gone", r, of(3), api.OK, 2)
	r.Script([]int{remote.Lost})
	r.Delete("m000003")
	checkLatest(t, "3 is not gone", r, of(3), api.OK, 2)
	r.Delete("m000003")
	checkLatest(t, "all are gone", r, manifest.Manifest{}, api.ErrNone, 1)
}

func TestLatestPassesOverWhatIsNoManifestOfItsVersion(t *testing.T) {
	for name, b := range spoilt(t) {
		r := with(objects{"m000007": b})
		checkLatest(t, name+", alone", r, manifest.Manifest{}, api.ErrNone, 2)
		put(t, r, 1)
		checkLatest(t, name+", with version 1", r, of(1), api.OK, 3)
		put(t, r, 2, 6)
		checkLatest(t, name+", with versions 1, 2 and 6", r, of(6), api.OK, 3)
		put(t, r, 8)
		checkLatest(t, name+", with version 8", r, of(8), api.OK, 2)
		r.Put("m000008", b+"\x00")
		checkLatest(t, name+", twice", r, of(6), api.OK, 4)
		put(t, r, 7)
		checkLatest(t, name+", replaced", r, of(7), api.OK, 3)
	}
}

func TestLatestWhereNoneIsReadable(t *testing.T) {
	r := remote.New()
	versions := 0
	for _, b := range spoilt(t) {
		versions++
		r.Put(manifest.Name(100*versions), b)
	}
	checkLatest(t, "all kinds", r, manifest.Manifest{}, api.ErrNone, 1+versions)
	r.Script(append(make([]int, versions), remote.Late))
	checkLatest(t, "the last one not reachable", r, manifest.Manifest{}, api.ErrFar, 1+versions)
}

func TestLatestOfARotatedSetOfManifests(t *testing.T) {
	r := with(objects{"m000001": bytes(t, of(2)), "m000002": bytes(t, of(3)), "m000003": bytes(t, of(1))})
	checkLatest(t, "each of another version", r, manifest.Manifest{}, api.ErrNone, 4)
	put(t, r, 1)
	checkLatest(t, "the least one of its own", r, of(1), api.OK, 4)
}

// Each version is absent, right, spoilt, of another version, or sealed words: what is got, and in which order, follows from the result and the number of calls.
func TestLatestOfEachSetOfVersions(t *testing.T) {
	versions := []int{1, 2, 10, 999999}
	for set := range 5 * 5 * 5 * 5 {
		all := objects{"z": "", "o000001": "x"}
		for i, kinds := 0, set; i < len(versions); i, kinds = i+1, kinds/5 {
			b := []string{"", bytes(t, of(versions[i])), "spoilt", bytes(t, of(versions[i]%10+1)), crc.Seal("words")}[kinds%5]
			if b != "" {
				all[manifest.Name(versions[i])] = b
			}
		}
		same(t, all, call{kind: "Latest"})
		for at := range 6 {
			for _, fate := range []int{remote.Lost, remote.Late, 3, -1} {
				same(t, all, call{kind: "Script", script: append(make([]int, at), fate)}, call{kind: "Latest"}, call{kind: "Latest"})
			}
		}
	}
}

func TestLatestChangesNothing(t *testing.T) {
	all := objects{"m000003": "spoilt", "m000002": bytes(t, of(2)), "m000001": bytes(t, of(1)), "o000001": "x", "z": ""}
	for _, script := range scripts(4) {
		r := with(all)
		r.Script(script)
		publish.Latest(r)
		checkObjects(t, fmt.Sprint("Latest with ", script), r, all)
	}
}

func TestALatestMayBeWrittenTo(t *testing.T) {
	r := remote.New()
	put(t, r, 7)
	first, _ := publish.Latest(r)
	again, _ := publish.Latest(r)
	for i := range first.Segs {
		first.Segs[i] = manifest.Seg{N: -1}
	}
	if !equal(again, of(7)) {
		t.Errorf("the other manifest became %+v", again)
	}
	checkLatest(t, "behind it", r, of(7), api.OK, 2)
}

// P13.2

func TestExampleOfTheZeroManifest(t *testing.T) {
	r := remote.New()
	checkNext(t, "zero", r, manifest.Manifest{}, nil, api.OK, 1)
	checkObjects(t, "zero", r, objects{"m000001": crc.Seal("\x01\x00")})
	checkLatest(t, "zero", r, manifest.Manifest{Version: 1}, api.OK, 2)
}

func TestNextOfVersionsAtTheEdges(t *testing.T) {
	for _, l := range [][]manifest.Seg{nil, {}, segs(1), segs(200)} {
		for version, name := range map[int]string{0: "m000001", 1: "m000002", 8: "m000009", 9: "m000010", 99999: "m100000", 999997: "m999998", 999998: "m999999"} {
			r := with(objects{"z": "1", "o000001": "2"})
			checkNext(t, name, r, manifest.Manifest{Version: version}, l, api.OK, 1)
			checkObjects(t, name, r, objects{"z": "1", "o000001": "2", name: bytes(t, manifest.Manifest{Version: version + 1, Segs: l})})
		}
		for _, version := range []int{999999, 1000000, 1000001, 1 << 32, 1<<32 + 6, math.MaxInt - 1, math.MaxInt, -1, -2, -7, -999999, math.MinInt, math.MinInt + 1} {
			checkNoNext(t, fmt.Sprint("version ", version), version, l)
		}
	}
}

// checkNoNext tells that Next of a version and segments returns ErrArg, and calls nothing.
func checkNoNext(t *testing.T, name string, version int, l []manifest.Seg) {
	t.Helper()
	all := objects{"m000001": "1", "m999999": "2", "": "3", "z": "4"}
	for fate := range 3 {
		r := with(all)
		r.Script([]int{fate})
		checkNext(t, name, r, manifest.Manifest{Version: version}, l, api.ErrArg, 0)
		if err := r.Put("z", "4"); (err == api.OK) != (fate == remote.Fine) {
			t.Errorf("%s: fate %d was used", name, fate)
		}
		checkObjects(t, name, r, all)
	}
}

func TestNextOfSegmentsThatAreNotValid(t *testing.T) {
	for name, l := range map[string][]manifest.Seg{
		"201 segments":               numbered(rising(0, 201)...),
		"70000 segments":             numbered(rising(0, 70000)...),
		"number -1":                  numbered(-1),
		"number 1000000":             numbered(1000000),
		"the least number":           numbered(math.MinInt),
		"the greatest number":        numbered(math.MaxInt),
		"number -1 ahead":            numbered(rising(-1, 5)...),
		"number 1000000 at the end":  numbered(rising(999996, 5)...),
		"a number twice":             numbered(3, 3),
		"a number twice in a row":    numbered(1, 2, 2, 3),
		"a number twice, not in one": numbered(1, 2, 1),
		"falling numbers":            numbered(3, 2, 1),
		"size -1":                    {{N: 1, Size: -1}},
		"a size too great":           {{N: 1, Size: 1<<20 + 1}},
		"the greatest size":          {{N: 1, Size: math.MaxInt}},
		"a size of the last one":     {{N: 1}, {N: 2, Size: -1}},
	} {
		checkNoNext(t, name, 0, l)
		checkNoNext(t, name, 7, l)
		checkNoNext(t, name, 999998, l)
		checkNoNext(t, name, 999999, l)
	}
}

func TestNextOfSegmentsAtTheEdges(t *testing.T) {
	for name, l := range map[string][]manifest.Seg{
		"200 segments":      numbered(rising(0, 200)...),
		"the last 200":      numbered(rising(999800, 200)...),
		"both ends":         numbered(0, 999999),
		"no size":           {{N: 1}},
		"the greatest size": {{N: 1, Size: 1 << 20, Sum: math.MaxUint32}},
	} {
		r := remote.New()
		checkNext(t, name, r, manifest.Manifest{Version: 6}, l, api.OK, 1)
		checkLatest(t, name, r, manifest.Manifest{Version: 7, Segs: l}, api.OK, 2)
	}
}

func TestNextTakesOnlyTheVersionOfItsManifest(t *testing.T) {
	for name, old := range map[string][]manifest.Seg{
		"valid ones":      segs(5),
		"the same ones":   segs(3),
		"ones not valid":  numbered(3, 2, -1),
		"too many":        numbered(rising(0, 300)...),
		"a wrong size":    {{N: 1, Size: -1}},
		"none, not a nil": {},
	} {
		r := remote.New()
		checkNext(t, name, r, manifest.Manifest{Version: 6, Segs: old}, segs(3), api.OK, 1)
		checkObjects(t, name, r, objects{"m000007": bytes(t, manifest.Manifest{Version: 7, Segs: segs(3)})})
	}
}

// standing are the bytes that an object can have ahead of a call, by what they are; "none" has none.
func standing(right string) objects {
	return objects{"none": "", "the same": right, "empty": "", "other": "other", "a byte less": right[:max(1, len(right))-1], "a byte more": right + "\x00"}
}

func TestNextUnderAllFates(t *testing.T) {
	l := segs(2)
	right := bytes(t, manifest.Manifest{Version: 7, Segs: l})
	kinds := standing(right)
	kinds["another manifest of the version"] = bytes(t, of(7))
	kinds["a manifest of another version"] = bytes(t, manifest.Manifest{Version: 8, Segs: l})
	for kind, b := range kinds {
		for _, script := range scripts(2) {
			before := objects{"m000006": "6", "m000008": "8"}
			if kind != "none" {
				before["m000007"] = b
			}
			r := with(before)
			r.Script(script)
			name := fmt.Sprintf("%s, fates %d", kind, script)
			wantErr, calls := nextOutcome(kind, script)
			checkNext(t, name, r, manifest.Manifest{Version: 6, Segs: segs(1)}, l, wantErr, calls)
			if kind == "none" && script[0] != remote.Lost {
				before["m000007"] = right
			}
			checkObjects(t, name, r, before)
		}
	}
}

// nextOutcome is the error of Next, and the number of its calls, for what stands there and the fates of PutNew and Get.
func nextOutcome(kind string, script []int) (api.Errno, int) {
	putNew, get := script[0], script[1]
	if putNew == remote.Fine && kind == "none" {
		return api.OK, 1
	}
	there := kind == "the same" || kind == "none" && putNew == remote.Late
	switch {
	case get == remote.Fine && there:
		return api.OK, 2
	case putNew == remote.Fine:
		return api.ErrTwice, 2
	default:
		return api.ErrFar, 2
	}
}

func TestNextAfterAnAnswerThatWasLost(t *testing.T) {
	r := remote.New()
	r.Script([]int{remote.Late, remote.Late})
	checkNext(t, "first", r, manifest.Manifest{}, segs(1), api.ErrFar, 2)
	checkNext(t, "the same again", r, manifest.Manifest{}, segs(1), api.OK, 2)
	checkNext(t, "another one", r, manifest.Manifest{}, segs(2), api.ErrTwice, 2)
	r.Script([]int{remote.Lost, remote.Fine})
	checkNext(t, "the next one, lost", r, manifest.Manifest{Version: 1}, segs(2), api.ErrFar, 2)
	checkNext(t, "the next one", r, manifest.Manifest{Version: 1}, segs(2), api.OK, 1)
	checkLatest(t, "in the end", r, manifest.Manifest{Version: 2, Segs: segs(2)}, api.OK, 2)
}

func TestNextSharesNothing(t *testing.T) {
	for _, script := range [][]int{nil, {remote.Late}} {
		for _, spare := range []int{0, 10} {
			r := remote.New()
			r.Script(script)
			old := manifest.Manifest{Version: 6, Segs: segs(2)}
			l := append(make([]manifest.Seg, 0, 3+spare), segs(3)...)
			next, err := publish.Next(r, old, l)
			if err != api.OK || !equal(next, manifest.Manifest{Version: 7, Segs: segs(3)}) {
				t.Errorf("Next = %+v, %d", next, err)
			}
			if old.Version != 6 || !slices.Equal(old.Segs, segs(2)) || !slices.Equal(l, segs(3)) {
				t.Errorf("the arguments became %+v and %+v", old, l)
			}
			clear(l)
			if !slices.Equal(next.Segs, segs(3)) {
				t.Errorf("the result became %+v with its argument", next)
			}
			copy(l, segs(3))
			next.Segs[0].N = -1
			_ = append(next.Segs[:1], manifest.Seg{N: -2})
			if !slices.Equal(l, segs(3)) {
				t.Errorf("the argument became %+v with the result", l)
			}
			checkLatest(t, "behind it", r, manifest.Manifest{Version: 7, Segs: segs(3)}, api.OK, 2)
		}
	}
}

// P13.3

func TestUploadOfNumbersAndBytesAtTheEdges(t *testing.T) {
	large := strings.Repeat("0123456789abcdef", 1<<16)
	for n, name := range map[int]string{0: "o000000", 1: "o000001", api.FirstFar - 1: "o499999", api.FirstFar: "o500000", 999998: "o999998", 999999: "o999999"} {
		for _, b := range []string{"", "x", "abc", "\x00\xff", large[1:], large} {
			r := with(objects{"z": "1", "m000001": "2"})
			checkUpload(t, fmt.Sprintf("%d, %d bytes", n, len(b)), r, n, b, api.OK, 2)
			checkObjects(t, name, r, objects{"z": "1", "m000001": "2", name: b})
			checkFetch(t, name, r, manifest.Seg{N: n, Size: len(b), Sum: crc.Sum(b)}, b, api.OK)
		}
	}
}

func TestUploadOfWhatCannotBeASegment(t *testing.T) {
	most := strings.Repeat("x", 1<<20)
	all := objects{"": "1", "o000000": "2", "o999999": "3", "o000007": "4"}
	for fate := range 3 {
		r := with(all)
		r.Script([]int{fate})
		for _, n := range []int{-1, -2, -7, -999999, 1000000, 1000001, 1 << 32, 1<<32 + 7, math.MaxInt, math.MinInt} {
			for _, b := range []string{"", "abc", most, most + "x"} {
				checkUpload(t, fmt.Sprintf("%d, %d bytes", n, len(b)), r, n, b, api.ErrArg, 0)
			}
		}
		for _, n := range []int{0, 7, 999999} {
			for _, b := range []string{most + "x", most + most, strings.Repeat("x", 1<<20+1<<16)} {
				checkUpload(t, fmt.Sprintf("%d, %d bytes", n, len(b)), r, n, b, api.ErrArg, 0)
			}
		}
		if err := r.Put("o000007", "4"); (err == api.OK) != (fate == remote.Fine) {
			t.Errorf("fate %d was used", fate)
		}
		checkObjects(t, "behind them", r, all)
	}
}

func TestUploadUnderAllFates(t *testing.T) {
	for _, b := range []string{"", "abc", strings.Repeat("x", 1<<20)} {
		for kind, old := range standing(b) {
			for _, script := range scripts(2) {
				before := objects{"o000006": "6", "o000008": "8"}
				if kind != "none" {
					before["o000007"] = old
				}
				r := with(before)
				r.Script(script)
				if script[0] != remote.Lost {
					before["o000007"] = b
				}
				name := fmt.Sprintf("%d bytes, %s, fates %d", len(b), kind, script)
				checkUpload(t, name, r, 7, b, uploadOutcome(before, b, script), 2)
				checkObjects(t, name, r, before)
			}
		}
	}
}

// uploadOutcome is the error of an Upload, behind whose Put there are these objects.
func uploadOutcome(behind objects, b string, script []int) api.Errno {
	there, ok := behind["o000007"]
	switch {
	case script[1] != remote.Fine:
		return api.ErrFar
	case !ok:
		return api.ErrNone
	case there != b:
		return api.ErrSum
	default:
		return api.OK
	}
}

// That the bytes have the same length and checksum as those that were to be put is not enough.
func TestUploadComparesBytes(t *testing.T) {
	a, b := sameSum()
	if a == b || manifest.Of(7, a) != manifest.Of(7, b) {
		t.Fatalf("%q and %q do not have the same checksum", a, b)
	}
	r := with(objects{"o000007": a})
	r.Script([]int{remote.Lost})
	checkUpload(t, "the old bytes", r, 7, b, api.ErrSum, 2)
	checkFetch(t, "the old bytes", r, manifest.Of(7, b), a, api.OK)
}

// sameSum are different bytes of the same length and checksum: the polynomial itself, the lowest bit of the first byte being its highest power, changes no checksum.
func sameSum() (string, string) {
	const polynomial = 0x82f63b78
	zeros := string(make([]byte, 12))
	changed := []byte(zeros)
	changed[3] = 1 << 7
	for i := range 4 {
		changed[4+i] = byte(uint32(polynomial) >> (8 * i))
	}
	return zeros, string(changed)
}

func TestUploadInPlaceOfAnother(t *testing.T) {
	r := remote.New()
	for _, b := range []string{"first", "", "a longer one", "x", "x"} {
		checkUpload(t, b, r, 3, b, api.OK, 2)
		checkObjects(t, b, r, objects{"o000003": b})
	}
}

func TestFetch(t *testing.T) {
	r := with(objects{"o000003": "abc", "o000004": "abd", "o000005": "", "o000000": "abc", "o999999": "abc"})
	for _, n := range []int{3, 0, 999999} {
		checkFetch(t, "its own bytes", r, manifest.Of(n, "abc"), "abc", api.OK)
	}
	checkFetch(t, "other bytes", r, manifest.Of(4, "abd"), "abd", api.OK)
	checkFetch(t, "no bytes", r, manifest.Of(5, ""), "", api.OK)
	checkFetch(t, "no bytes, the zero sum", r, manifest.Seg{N: 5}, "", api.OK)
	checkFetch(t, "another one's bytes", r, manifest.Of(4, "abc"), "", api.ErrSum)
	checkFetch(t, "bytes behind those of no length", r, manifest.Of(4, ""), "", api.ErrSum)
	checkFetch(t, "the zero Seg", r, manifest.Seg{}, "", api.ErrSum)
	checkFetch(t, "no bytes in place of some", r, manifest.Of(5, "abc"), "", api.ErrSum)
	checkFetch(t, "no object", r, manifest.Of(6, "abc"), "", api.ErrNone)
	checkFetch(t, "no object, no bytes", r, manifest.Of(6, ""), "", api.ErrNone)
}

func TestFetchOfAnotherSumOrSize(t *testing.T) {
	large := strings.Repeat("x", 1<<20)
	for _, b := range []string{"", "abc", large} {
		r := with(objects{"o000003": b})
		right := manifest.Of(3, b)
		for bit := range 32 {
			s := right
			s.Sum ^= 1 << bit
			checkFetch(t, "another sum", r, s, "", api.ErrSum)
		}
		for _, size := range []int{-1, 0, 1, 2, 3, 4, -3, 1<<20 - 1, 1 << 20, 1<<20 + 1, 1<<32 + len(b), math.MaxInt, math.MinInt} {
			if size == len(b) {
				continue
			}
			s := right
			s.Size = size
			checkFetch(t, "another size", r, s, "", api.ErrSum)
		}
		checkFetch(t, "the right ones", r, right, b, api.OK)
	}
}

func TestFetchOfEachChangedByte(t *testing.T) {
	const b = "some bytes of a segment"
	for i := range len(b) {
		for bit := range 8 {
			changed := []byte(b)
			changed[i] ^= 1 << bit
			checkFetch(t, "a changed bit", with(objects{"o000003": string(changed)}), manifest.Of(3, b), "", api.ErrSum)
		}
		checkFetch(t, "a beginning", with(objects{"o000003": b[:i]}), manifest.Of(3, b), "", api.ErrSum)
		checkFetch(t, "an end", with(objects{"o000003": b[i+1:]}), manifest.Of(3, b), "", api.ErrSum)
	}
}

// The object of a number that is out of the range has the empty name, as P12.2 has it.
func TestFetchOfNumbersOutOfTheRange(t *testing.T) {
	for _, n := range []int{-1, -7, 1000000, 1000001, 1<<32 + 7, math.MaxInt, math.MinInt} {
		r := with(objects{"o000007": "abc", "o000000": "abc", "o999999": "abc", "o1000000": "abc", "o-00001": "abc", "o-1": "abc"})
		checkFetch(t, fmt.Sprint("number ", n), r, manifest.Of(n, "abc"), "", api.ErrNone)
		r.Put("", "abc")
		checkFetch(t, fmt.Sprint("number ", n, " and the empty name"), r, manifest.Of(n, "abc"), "abc", api.OK)
		checkFetch(t, fmt.Sprint("number ", n, " and other bytes"), r, manifest.Of(n, "abd"), "", api.ErrSum)
	}
}

func TestFetchOfWhatIsNotReachable(t *testing.T) {
	all := objects{"o000003": "abc", "o000004": "abd"}
	for _, fate := range []int{remote.Lost, remote.Late} {
		for _, s := range []manifest.Seg{manifest.Of(3, "abc"), manifest.Of(4, "abc"), manifest.Of(5, "abc"), manifest.Of(-1, "abc"), manifest.Of(5, "")} {
			r := with(all)
			r.Script([]int{fate})
			checkFetch(t, fmt.Sprint("fate ", fate), r, s, "", api.ErrFar)
			checkObjects(t, fmt.Sprint("fate ", fate), r, all)
		}
	}
}

func TestUploadAndFetchOfEachFormOfBytes(t *testing.T) {
	for n, b := range []string{"\x00", "\xff\xfe", "é", "m000001", strings.Repeat("\x00", 1000), string(make([]byte, 1<<20)), crc.Seal("x")} {
		r := remote.New()
		checkUpload(t, fmt.Sprintf("%.20q", b), r, n, b, api.OK, 2)
		checkFetch(t, fmt.Sprintf("%.20q", b), r, manifest.Of(n, b), b, api.OK)
	}
}

// P13.4

func TestWasteOfNoNames(t *testing.T) {
	for _, m := range []manifest.Manifest{{}, {Version: 1}, of(7), {Version: math.MaxInt}, {Version: math.MinInt}} {
		checkWaste(t, nil, m)
		checkWaste(t, []string{}, m)
	}
}

func TestWasteOfVersions(t *testing.T) {
	names := []string{"m000001", "m000002", "m000003", "m000004", "m000005", "m000006", "m000007", "m000008", "m999997", "m999998", "m999999"}
	for version, wasted := range map[int]int{
		math.MinInt: 0, math.MinInt + 1: 0, -1000000: 0, -1: 0, 0: 0, 1: 0, 2: 0, 3: 1, 4: 2, 5: 3, 7: 5, 8: 6, 9: 7, 10: 8, 999997: 8, 999998: 8, 999999: 9, 1000000: 10, 1000001: 11, 1000002: 11,
		1<<32 + 1: 11, math.MaxInt - 1: 11, math.MaxInt: 11,
	} {
		checkWaste(t, names, manifest.Manifest{Version: version}, names[:wasted]...)
		for i, name := range names {
			if i < wasted {
				checkWaste(t, []string{name}, manifest.Manifest{Version: version}, name)
			} else {
				checkWaste(t, []string{name}, manifest.Manifest{Version: version})
			}
		}
	}
}

func TestWasteOfObjects(t *testing.T) {
	names := []string{"o000000", "o000001", "o000002", "o000003", "o499999", "o500000", "o999998", "o999999"}
	checkWaste(t, names, manifest.Manifest{Version: 7}, names...)
	checkWaste(t, names, manifest.Manifest{Version: 7, Segs: numbered(0, 1, 2, 3, 499999, 500000, 999998, 999999)})
	checkWaste(t, names, manifest.Manifest{Version: 7, Segs: numbered(0, 3, 999999)}, "o000001", "o000002", "o499999", "o500000", "o999998")
	for i, n := range []int{0, 1, 2, 3, 499999, 500000, 999998, 999999} {
		others := slices.Delete(slices.Clone(names), i, i+1)
		for _, version := range []int{0, 1, 7, 999999, math.MaxInt, math.MinInt, -1} {
			checkWaste(t, names, manifest.Manifest{Version: version, Segs: numbered(n)}, others...)
			checkWaste(t, names, manifest.Manifest{Version: version, Segs: []manifest.Seg{{N: n}}}, others...)
		}
	}
}

func TestWasteOfManifestsThatAreNotValid(t *testing.T) {
	names := []string{"o000000", "o000001", "o000002", "o000003"}
	checkWaste(t, names, manifest.Manifest{Segs: numbered(3, 1, 1, -1, 1000000, math.MaxInt, math.MinInt)}, "o000000", "o000002")
	checkWaste(t, names, manifest.Manifest{Segs: numbered(-1, -2, 1<<32, 1<<32+1, 1000001)}, names...)
	checkWaste(t, names, manifest.Manifest{Segs: []manifest.Seg{{N: 2, Size: -1}, {N: 0, Size: math.MaxInt}}}, "o000001", "o000003")
	checkWaste(t, names, manifest.Manifest{Segs: numbered(rising(1, 300)...)}, "o000000")
}

func TestWasteOfNamesThatAreNeithers(t *testing.T) {
	names := foreign()
	for _, name := range foreign() {
		names = append(names, strings.ReplaceAll(name, "m", "o"))
	}
	names = append(names, "o1000000", "o-00000", "o+00000", "o00000", "o0000000", "O000001", "o0", "o-1", "\x00", "m\x00", "o\x00", strings.Repeat("9", 1000), "o"+strings.Repeat("0", 1000), "m"+strings.Repeat("0", 999)+"1")
	names = slices.DeleteFunc(names, func(name string) bool { return name == "o000001" || name == "o000000" })
	for _, version := range []int{0, 1, 7, 999999, math.MaxInt, math.MinInt} {
		checkWaste(t, names, manifest.Manifest{Version: version})
		checkWaste(t, names, manifest.Manifest{Version: version, Segs: numbered(-1, 1, 1000000)})
		for _, name := range names {
			checkWaste(t, []string{name}, manifest.Manifest{Version: version})
		}
		checkWaste(t, append(slices.Clone(names), "o000001", "o000000"), manifest.Manifest{Version: version}, "o000000", "o000001")
	}
}

func TestWasteOfNamesWithEveryByteAtEveryPlace(t *testing.T) {
	for _, name := range []string{"m000001", "m123456", "o000000", "o123456"} {
		for i := range len(name) {
			for value := range 256 {
				changed := name[:i] + string([]byte{byte(value)}) + name[i+1:]
				var want []string
				if (i == 0 && (value == 'm' && name != "o000000" || value == 'o')) || (i > 0 && value >= '0' && value <= '9' && changed != "m000000") {
					want = []string{changed}
				}
				checkWaste(t, []string{changed}, manifest.Manifest{Version: 1000001}, want...)
			}
		}
	}
}

func TestWasteIsInIncreasingOrder(t *testing.T) {
	m := manifest.Manifest{Version: 100, Segs: numbered(3, 10)}
	want := []string{"m000001", "m000009", "m000010", "m000098", "o000000", "o000009", "o000011", "o999999"}
	names := append([]string{"m000099", "m000100", "m000101", "o000003", "o000010", "z", ""}, want...)
	random := rand.New(rand.NewPCG(1, 2))
	for range 500 {
		random.Shuffle(len(names), func(i, j int) { names[i], names[j] = names[j], names[i] })
		checkWaste(t, names, m, want...)
	}
}

func TestWasteHasEachNameOnce(t *testing.T) {
	m := manifest.Manifest{Version: 100, Segs: numbered(3)}
	checkWaste(t, []string{"m000001", "m000001"}, m, "m000001")
	checkWaste(t, []string{"o000001", "m000001", "o000001", "m000001", "o000001"}, m, "m000001", "o000001")
	checkWaste(t, []string{"o000003", "m000099", "o000003", "m000099", "z", "z"}, m)
	random := rand.New(rand.NewPCG(3, 4))
	want := []string{"m000001", "m000098", "o000000", "o000002", "o000004"}
	for range 200 {
		names := slices.Clone(want)
		for range random.IntN(50) {
			names = append(names, append([]string{"o000003", "m000099", "z"}, want...)[random.IntN(8)])
		}
		random.Shuffle(len(names), func(i, j int) { names[i], names[j] = names[j], names[i] })
		checkWaste(t, names, m, want...)
	}
}

func TestWasteSharesNothing(t *testing.T) {
	names := append(make([]string, 0, 20), "o000002", "o000001", "m000001")
	m := manifest.Manifest{Version: 100, Segs: numbered(3, 4)}
	l := publish.Waste(names, m)
	again := publish.Waste(names, m)
	for i := range l {
		l[i] = "changed"
	}
	_ = append(l[:0], "a", "b", "c", "d")
	if !slices.Equal(names, []string{"o000002", "o000001", "m000001"}) {
		t.Errorf("the names became %q with the result", names)
	}
	clear(names)
	if !slices.Equal(again, []string{"m000001", "o000001", "o000002"}) {
		t.Errorf("the result became %q with the names", again)
	}
	if !equal(m, manifest.Manifest{Version: 100, Segs: numbered(3, 4)}) {
		t.Errorf("the manifest became %+v", m)
	}
}

func TestWasteOfManyNames(t *testing.T) {
	const listed, version = 200, 60001
	var names, want []string
	m := manifest.Manifest{Version: version}
	for n := range 100000 {
		names = append(names, fmt.Sprintf("o%06d", n), fmt.Sprintf("m%06d", n))
		if n > 0 && n < version-1 {
			want = append(want, fmt.Sprintf("m%06d", n))
		}
	}
	for n := range 100000 {
		if n%500 == 7 {
			m.Segs = append(m.Segs, manifest.Seg{N: n})
		} else {
			want = append(want, fmt.Sprintf("o%06d", n))
		}
	}
	if len(m.Segs) != listed {
		t.Fatalf("%d segments", len(m.Segs))
	}
	rand.New(rand.NewPCG(5, 6)).Shuffle(len(names), func(i, j int) { names[i], names[j] = names[j], names[i] })
	if got := publish.Waste(names, m); !slices.Equal(got, want) {
		t.Errorf("%d names, want %d", len(got), len(want))
	}
}

// anyName is one that Waste may be asked about.
func anyName(r *rand.Rand) string {
	switch r.IntN(8) {
	case 0:
		return foreign()[r.IntN(len(foreign()))]
	case 1:
		return fmt.Sprintf("m%06d", r.IntN(1000000))
	case 2:
		return fmt.Sprintf("o%06d", r.IntN(1000000))
	case 3, 4:
		return fmt.Sprintf("o%06d", r.IntN(20))
	default:
		return fmt.Sprintf("m%06d", r.IntN(20))
	}
}

// anyManifest need not be valid.
func anyManifest(r *rand.Rand) manifest.Manifest {
	m := manifest.Manifest{Version: r.IntN(24) - 1}
	switch r.IntN(10) {
	case 0:
		m.Version = r.IntN(1000002)
	case 1:
		m.Version = []int{math.MaxInt, math.MinInt, 999999, 1000000}[r.IntN(4)]
	}
	for range r.IntN(15) {
		m.Segs = append(m.Segs, manifest.Seg{N: r.IntN(22) - 1, Size: r.IntN(3) - 1})
	}
	return m
}

func TestWasteOfDrawnNames(t *testing.T) {
	r := rand.New(rand.NewPCG(7, 8))
	for range 5000 {
		var names []string
		for range r.IntN(60) {
			names = append(names, anyName(r))
		}
		m := anyManifest(r)
		checkWaste(t, names, m, plainWaste(names, m)...)
		for _, name := range publish.Waste(names, m) {
			checkNotNeeded(t, name, m)
		}
	}
}

// checkNotNeeded tells that a name belongs neither to m, nor to the version before it, nor to a newer one.
func checkNotNeeded(t *testing.T, name string, m manifest.Manifest) {
	t.Helper()
	for _, s := range m.Segs {
		if name == manifest.Object(s.N) {
			t.Errorf("%q belongs to %+v", name, m)
		}
	}
	// Names of versions have their order.
	if m.Version >= 2 && strings.HasPrefix(name, "m") && name >= fmt.Sprintf("m%06d", m.Version-1) && m.Version <= 1000000 {
		t.Errorf("%q belongs to the version before %d, or to a newer one", name, m.Version)
	}
	if m.Version < 2 && strings.HasPrefix(name, "m") {
		t.Errorf("%q is not older than the version before %d", name, m.Version)
	}
}

// P13.5

// anyScript are fates of the next calls, of each kind.
func anyScript(r *rand.Rand) []int {
	l := make([]int, r.IntN(5))
	for i := range l {
		l[i] = r.IntN(4)
	}
	return l
}

// versions are the objects that have names of versions.
func versions(all objects) objects {
	l := objects{}
	for name, b := range all {
		if _, ok := plainNumber("m", name, 1); ok {
			l[name] = b
		}
	}
	return l
}

// checkWrittenOnce tells that the versions that were there are there unchanged, and at most one is new.
func checkWrittenOnce(t *testing.T, before, behind objects) {
	t.Helper()
	for name, b := range before {
		if again, ok := behind[name]; !ok || again != b {
			t.Fatalf("%s was %q, and is %q, %t", name, b, again, ok)
		}
	}
	if len(behind) > len(before)+1 {
		t.Fatalf("one call has put %d versions", len(behind)-len(before))
	}
}

// A publisher goes on from what it published last, or from the latest manifest.
func TestWhatNextReturnedIsTheLatest(t *testing.T) {
	random := rand.New(rand.NewPCG(9, 10))
	published := 0
	for run := range 200 {
		r, m := remote.New(), manifest.Manifest{}
		r.Put("z", "")
		if run%2 == 1 {
			r.Put("m900000", "spoilt")
			r.Put("m999999", bytes(t, of(1)))
		}
		for range 40 {
			before := versions(contents(t, r))
			r.Script(anyScript(random))
			next, err := publish.Next(r, m, segs(random.IntN(5)))
			checkWrittenOnce(t, before, versions(contents(t, r)))
			if err == api.OK {
				latest, wrong := publish.Latest(r)
				if !equal(latest, next) || wrong != api.OK || next.Version != m.Version+1 {
					t.Fatalf("Next = %+v behind %+v, Latest = %+v, %d", next, m, latest, wrong)
				}
				m = next
				published++
				continue
			}
			r.Script(anyScript(random))
			if latest, err := publish.Latest(r); err == api.OK {
				m = latest
			}
		}
	}
	if published < 1000 {
		t.Errorf("only %d were published", published)
	}
}

// Several publishers, of whom none lists the same segments as another: to each version there is one who published it.
func TestSeveralPublishers(t *testing.T) {
	random := rand.New(rand.NewPCG(11, 12))
	taken, newer := 0, 0
	for range 500 {
		r := remote.New()
		var known [3]manifest.Manifest
		published := map[int]int{}
		for range 60 {
			who := random.IntN(len(known))
			before := versions(contents(t, r))
			r.Script(anyScript(random))
			if random.IntN(3) == 0 {
				if m, err := publish.Latest(r); err == api.OK {
					known[who] = m
				}
				checkWrittenOnce(t, before, versions(contents(t, r)))
				continue
			}
			l := []manifest.Seg{{N: who, Size: random.IntN(2)}}
			next, err := publish.Next(r, known[who], l)
			checkWrittenOnce(t, before, versions(contents(t, r)))
			if err == api.ErrTwice {
				taken++
			}
			if err != api.OK {
				continue
			}
			if other, ok := published[next.Version]; ok && other != who {
				t.Fatalf("version %d is that of publishers %d and %d", next.Version, who, other)
			}
			published[next.Version], known[who] = who, next
			latest, err := publish.Latest(r)
			if err != api.OK || latest.Version < next.Version || latest.Version == next.Version && !equal(latest, next) {
				t.Fatalf("Next = %+v, Latest = %+v, %d", next, latest, err)
			}
			if latest.Version > next.Version {
				newer++
			}
		}
	}
	if taken == 0 || newer == 0 {
		t.Errorf("%d versions were taken, and %d found late, behind newer ones", taken, newer)
	}
}

func TestWhatNextReturnedIsTheLatestIfItCanBeRead(t *testing.T) {
	for _, fate := range []int{remote.Lost, remote.Late} {
		r := remote.New()
		checkNext(t, "first", r, manifest.Manifest{}, segs(1), api.OK, 1)
		checkNext(t, "second", r, manifest.Manifest{Version: 1}, segs(2), api.OK, 1)
		r.Script([]int{fate})
		checkLatest(t, "no list", r, manifest.Manifest{}, api.ErrFar, 1)
		r.Script([]int{remote.Fine, fate})
		checkLatest(t, "no object", r, manifest.Manifest{}, api.ErrFar, 2)
		checkLatest(t, "both", r, manifest.Manifest{Version: 2, Segs: segs(2)}, api.OK, 2)
	}
}

func TestOnlyVersionsThatAreNotThereAreWritten(t *testing.T) {
	for version := range 6 {
		for _, script := range scripts(2) {
			before := objects{"m000001": "", "m000002": "spoilt", "m000003": bytes(t, of(3)), "m000004": bytes(t, of(9))}
			r := with(before)
			r.Script(script)
			publish.Next(r, manifest.Manifest{Version: version}, segs(1))
			if version >= 4 && script[0] != remote.Lost {
				before[manifest.Name(version+1)] = bytes(t, manifest.Manifest{Version: version + 1, Segs: segs(1)})
			}
			checkObjects(t, fmt.Sprint("version ", version+1, " with ", script), r, before)
		}
	}
}

// upload is what Upload was given and returned.
type upload struct {
	s manifest.Seg
	b string
}

// checkUploaded tells that just those uploads can be fetched that were not overwritten or deleted.
func checkUploaded(t *testing.T, r *remote.Remote, l []upload) {
	t.Helper()
	all := contents(t, r)
	for _, u := range l {
		want, wantErr := u.b, api.OK
		switch there, ok := all[fmt.Sprintf("o%06d", u.s.N)]; {
		case !ok:
			want, wantErr = "", api.ErrNone
		case there != u.b:
			want, wantErr = "", api.ErrSum
		}
		checkFetch(t, "behind its upload", r, u.s, want, wantErr)
	}
}

func TestWhatUploadReturnedCanBeFetched(t *testing.T) {
	random := rand.New(rand.NewPCG(13, 14))
	for range 500 {
		r := remote.New()
		var l []upload
		for step := range 30 {
			r.Script(anyScript(random))
			n, b := random.IntN(4), strings.Repeat(fmt.Sprint(step%5, " "), random.IntN(4))
			switch random.IntN(6) {
			case 0, 1, 2:
				if s, err := publish.Upload(r, n, b); err == api.OK {
					l = append(l, upload{s, b})
					checkFetch(t, "uploaded", withoutScript(r), s, b, api.OK)
				}
			case 3:
				r.Delete(manifest.Object(n))
			case 4:
				publish.Next(r, manifest.Manifest{Version: random.IntN(5)}, segs(1))
				publish.Latest(r)
			default:
				publish.Fetch(r, manifest.Of(n, b))
			}
			checkUploaded(t, r, l)
		}
	}
}

func withoutScript(r *remote.Remote) *remote.Remote {
	r.Script(nil)
	return r
}

func TestWhatWasOverwrittenOrDeletedIsNotFetched(t *testing.T) {
	r := remote.New()
	old, _ := publish.Upload(r, 3, "abc")
	checkUpload(t, "the same bytes", r, 3, "abc", api.OK, 2)
	checkFetch(t, "the same bytes", r, old, "abc", api.OK)
	checkUpload(t, "other bytes", r, 3, "abd", api.OK, 2)
	checkFetch(t, "other bytes", r, old, "", api.ErrSum)
	r.Script([]int{remote.Late, remote.Lost})
	checkUpload(t, "the old bytes, late", r, 3, "abc", api.ErrFar, 2)
	checkFetch(t, "the old bytes, late", r, old, "abc", api.OK)
	r.Delete("o000003")
	checkFetch(t, "deleted", r, old, "", api.ErrNone)
	checkUpload(t, "the old bytes again", r, 3, "abc", api.OK, 2)
	checkFetch(t, "the old bytes again", r, old, "abc", api.OK)
}

// published makes a remote with as many versions, whose segments change from one to the next; it returns all manifests.
func published(t *testing.T, random *rand.Rand, size int) (*remote.Remote, []manifest.Manifest) {
	t.Helper()
	r := remote.New()
	r.Put("z", "")
	l := []manifest.Manifest{{}}
	for i := range size {
		var segs []manifest.Seg
		for n := range 8 {
			if random.IntN(2) == 0 {
				continue
			}
			s, err := publish.Upload(r, 8*(i/3)+n, fmt.Sprint("segment ", n, " of ", i/3))
			if err != api.OK {
				t.Fatalf("Upload returned %d", err)
			}
			segs = append(segs, s)
		}
		m, err := publish.Next(r, l[i], segs)
		if err != api.OK {
			t.Fatalf("Next returned %d", err)
		}
		l = append(l, m)
	}
	return r, l
}

func TestWithoutItsWasteAManifestIsWhole(t *testing.T) {
	random := rand.New(rand.NewPCG(15, 16))
	deleted := 0
	for size := range 13 {
		for range 10 {
			r, l := published(t, random, size)
			m := l[random.IntN(len(l))]
			before := versions(contents(t, r))
			names, _ := r.List()
			for _, name := range publish.Waste(names, m) {
				r.Delete(name)
				deleted++
			}
			for _, s := range m.Segs {
				if b, err := publish.Fetch(r, s); manifest.Of(s.N, b) != s || err != api.OK {
					t.Errorf("Fetch(%+v) = %q, %d", s, b, err)
				}
			}
			behind := versions(contents(t, r))
			for _, other := range l[max(1, m.Version-1):] {
				name := manifest.Name(other.Version)
				if behind[name] != before[name] {
					t.Errorf("%s is %q behind the waste of version %d", name, behind[name], m.Version)
				}
			}
			if want := len(l) - max(1, m.Version-1); len(behind) != want {
				t.Errorf("%d versions behind the waste of version %d, want %d", len(behind), m.Version, want)
			}
			if latest := l[size]; size > 0 {
				checkLatest(t, "behind the waste", r, latest, api.OK, 2)
			}
		}
	}
	if deleted < 100 {
		t.Errorf("only %d objects were waste", deleted)
	}
}

// Runs of calls, compared with the chapter's words.

func TestAllShortRuns(t *testing.T) {
	a, b := segs(1), []manifest.Seg{manifest.Of(3, "abc")}
	before := objects{"m000001": bytes(t, manifest.Manifest{Version: 1, Segs: a}), "m000003": "spoilt"}
	calls := []call{
		{kind: "Latest"}, {kind: "Next", segs: a}, {kind: "Next", n: 1, segs: a}, {kind: "Next", n: 1, segs: b}, {kind: "Next", n: 2}, {kind: "Next", n: -1},
		{kind: "Upload", n: 3, b: "abc"}, {kind: "Upload", n: 3, b: "abd"}, {kind: "Upload", n: -1}, {kind: "Fetch", segs: b},
		{kind: "Delete", name: "m000003"}, {kind: "Put", name: "m000002", b: "spoilt"}, {kind: "Delete", name: "o000003"},
	}
	for _, c := range calls {
		sameUnderAllFates(t, before, c, 5)
	}
	for _, script := range scripts(3) {
		for _, first := range calls {
			for _, second := range calls {
				for _, third := range calls {
					same(t, before, call{kind: "Script", script: script}, first, second, third)
				}
			}
		}
	}
}

// anyCall is one of few versions, numbers and bytes, so that calls meet the objects of those before.
func anyCall(r *rand.Rand) call {
	b := []string{"", "abc", "abd", "a longer one"}[r.IntN(4)]
	n := r.IntN(5)
	if r.IntN(12) == 0 {
		n = []int{-1, -2, 999998, 999999, 1000000, math.MaxInt, math.MinInt}[r.IntN(7)]
	}
	c := call{kind: []string{"Latest", "Next", "Upload", "Fetch", "Put", "Delete", "Script"}[r.IntN(7)], n: n, b: b}
	switch c.kind {
	case "Next":
		c.segs = [][]manifest.Seg{nil, segs(1), segs(2), numbered(3, 3), numbered(-1)}[r.IntN(5)]
	case "Fetch":
		c.segs = []manifest.Seg{manifest.Of(n, b)}
	case "Put", "Delete":
		c.name = []string{"", "z", "m000000", manifest.Name(1 + r.IntN(5)), manifest.Name(1 + r.IntN(5)), manifest.Object(r.IntN(5))}[r.IntN(6)]
		if r.IntN(2) == 0 {
			c.b, _ = manifest.Bytes(manifest.Manifest{Version: 1 + r.IntN(5), Segs: segs(r.IntN(3))})
		}
	case "Script":
		c.script = anyScript(r)
	}
	return c
}

func TestRunsOfCalls(t *testing.T) {
	r := rand.New(rand.NewPCG(17, 18))
	for range 3000 {
		var l []call
		for range r.IntN(60) {
			l = append(l, anyCall(r))
		}
		same(t, objects{}, l...)
	}
}

func TestTheSameCallsHaveTheSameResults(t *testing.T) {
	random := rand.New(rand.NewPCG(19, 20))
	var l []call
	for range 300 {
		l = append(l, anyCall(random))
	}
	var first []string
	for run := range 4 {
		r := remote.New()
		for i, c := range l {
			got := c.on(r)
			if run == 0 {
				first = append(first, got)
			} else if got != first[i] {
				t.Fatalf("call %d: %s; the first time %s", i, got, first[i])
			}
		}
	}
}

// decoded are calls that bytes stand for, two bytes each.
func decoded(b []byte) []call {
	var l []call
	for ; len(b) >= 2; b = b[2:] {
		l = append(l, anyCall(rand.New(rand.NewPCG(uint64(b[0]), uint64(b[1])))))
	}
	return l
}

func FuzzCalls(f *testing.F) {
	f.Add([]byte("\x01\x02\x03\x04\x05\x06\x07\x08"))
	f.Add([]byte("publication by manifests"))
	f.Fuzz(func(t *testing.T, b []byte) {
		same(t, objects{}, decoded(b[:min(len(b), 400)])...)
	})
}

func FuzzWaste(f *testing.F) {
	f.Add("m000001 m000002 o000001 o000002 z", 3, 1)
	f.Add("m000001 m000001 o00000 o-00001", math.MinInt, -1)
	f.Fuzz(func(t *testing.T, names string, version, n int) {
		m := manifest.Manifest{Version: version, Segs: []manifest.Seg{{N: n}, {N: 2}}}
		l := strings.Split(names, " ")
		checkWaste(t, l, m, plainWaste(l, m)...)
	})
}
