package keydir_test

import (
	"fmt"
	"iter"
	"math"
	"math/rand/v2"
	"slices"
	"sort"
	"strconv"
	"strings"
	"testing"

	"thwart/api"
	"thwart/hash"
	"thwart/keydir"
)

// directory is what a directory and its plain counterpart can do.
type directory interface {
	Put(key string, l api.Loc)
	Get(key string) (api.Loc, bool)
	Delete(key string) bool
	Len() int
	Cap() int
	From(key string) iter.Seq2[string, api.Loc]
	Far(key string) (int, bool)
}

// pair is a key with its position.
type pair struct {
	key string
	l   api.Loc
}

// plainDir follows the chapter's words sentence by sentence: the positions are in a map, the ring has keys alone.
type plainDir struct {
	positions map[string]api.Loc
	ring      []*string
}

func newPlain() *plainDir {
	return &plainDir{map[string]api.Loc{}, make([]*string, 8)}
}

// insert puts a key at the first empty place from its home on.
func (d *plainDir) insert(key string) {
	for n := range d.ring {
		i := (hash.Place(key, len(d.ring)) + n) % len(d.ring)
		if d.ring[i] == nil {
			d.ring[i] = &key
			return
		}
	}
	panic("no place is empty")
}

// place is where the ring has a key.
func (d *plainDir) place(key string) int {
	return slices.IndexFunc(d.ring, func(p *string) bool { return p != nil && *p == key })
}

func (d *plainDir) Put(key string, l api.Loc) {
	_, present := d.positions[key]
	d.positions[key] = l
	if present {
		return
	}
	if 2*len(d.positions) > len(d.ring) {
		d.ring = make([]*string, 2*len(d.ring))
		for k := range d.From("") {
			if k != key {
				d.insert(k)
			}
		}
	}
	d.insert(key)
}

func (d *plainDir) Get(key string) (api.Loc, bool) {
	l, present := d.positions[key]
	return l, present
}

func (d *plainDir) Delete(key string) bool {
	if _, present := d.positions[key]; !present {
		return false
	}
	delete(d.positions, key)
	hole := d.place(key)
	d.ring[hole] = nil
	// Those behind it, up to the first empty place, are told ahead of all changes.
	var behind []string
	for n := 1; n < len(d.ring); n++ {
		p := d.ring[(hole+n)%len(d.ring)]
		if p == nil {
			break
		}
		behind = append(behind, *p)
	}
	for _, k := range behind {
		d.ring[d.place(k)] = nil
		d.insert(k)
	}
	return true
}

func (d *plainDir) Len() int { return len(d.positions) }

func (d *plainDir) Cap() int { return len(d.ring) }

func (d *plainDir) From(key string) iter.Seq2[string, api.Loc] {
	return func(yield func(string, api.Loc) bool) {
		var keys []string
		for k := range d.positions {
			keys = append(keys, k)
		}
		sort.Strings(keys)
		for _, k := range keys {
			if k >= key && !yield(k, d.positions[k]) {
				return
			}
		}
	}
}

func (d *plainDir) Far(key string) (int, bool) {
	i := d.place(key)
	if i < 0 {
		return 0, false
	}
	n := i - hash.Place(key, len(d.ring))
	if n < 0 {
		n += len(d.ring)
	}
	return n, true
}

// pairs are what an iteration tells.
func pairs(seq iter.Seq2[string, api.Loc]) []pair {
	var l []pair
	for k, at := range seq {
		l = append(l, pair{k, at})
	}
	return l
}

// keysOf are the keys that an iteration tells.
func keysOf(seq iter.Seq2[string, api.Loc]) []string {
	var l []string
	for k := range seq {
		l = append(l, k)
	}
	return l
}

// contents tells all that can be seen of a directory, of all these keys and of those that are present.
func contents(d directory, keys []string) string {
	var b strings.Builder
	fmt.Fprintf(&b, "%d of %d", d.Len(), d.Cap())
	one := func(k string) {
		l, present := d.Get(k)
		far, found := d.Far(k)
		fmt.Fprintf(&b, ", %q %v %v %d %v", k, l, present, far, found)
	}
	for k, l := range d.From("") {
		fmt.Fprintf(&b, ", %q: %v", k, l)
		one(k)
	}
	for _, k := range keys {
		one(k)
	}
	return b.String()
}

// compare complains if two directories are different, or the theorem does not hold.
func compare(t *testing.T, d, p directory, keys []string) {
	t.Helper()
	theorem(t, d)
	if got, want := contents(d, keys), contents(p, keys); got != want {
		t.Fatalf("got\n%s\nwant\n%s", got, want)
	}
}

// theorem complains if a key is not found from its home on, or too many places are occupied (P10.4).
func theorem(t *testing.T, d directory) {
	t.Helper()
	occupied := make([]string, d.Cap())
	is := make([]bool, d.Cap())
	many := 0
	for k := range d.From("") {
		far, found := d.Far(k)
		if !found || far < 0 || far >= d.Cap() {
			t.Fatalf("%q is %d places behind its home, %v", k, far, found)
		}
		i := (hash.Place(k, d.Cap()) + far) % d.Cap()
		if is[i] {
			t.Fatalf("%q and %q are in place %d", occupied[i], k, i)
		}
		occupied[i], is[i] = k, true
		many++
	}
	for k := range d.From("") {
		far, _ := d.Far(k)
		for n := range far {
			if !is[(hash.Place(k, d.Cap())+n)%d.Cap()] {
				t.Fatalf("an empty place %d behind the home of %q, which is %d behind it", n, k, far)
			}
		}
	}
	if many != d.Len() || 2*many > d.Cap() {
		t.Fatalf("%d keys, Len %d, Cap %d", many, d.Len(), d.Cap())
	}
}

// loc is a position that tells n in each field.
func loc(n int) api.Loc {
	return api.Loc{Seg: n, Off: -n, Len: n * n, Seq: uint64(n) + 7}
}

// at are keys whose home is one place of a ring, in increasing order.
func at(home, places, many int) []string {
	var l []string
	for n := 0; len(l) < many; n++ {
		if k := "k" + strconv.Itoa(1000000+n); hash.Place(k, places) == home {
			l = append(l, k)
		}
	}
	return l
}

// filled has these keys, put in this order; the position of key i is loc(i).
func filled(keys ...string) *keydir.Dir {
	d := keydir.New()
	for i, k := range keys {
		d.Put(k, loc(i))
	}
	return d
}

// edgeKeys are empty, long, no valid UTF-8, and beginnings of one another, in increasing order.
func edgeKeys() []string {
	l := []string{
		"", "\x00", "\x00\x00", "\x00a", "0", "10", "9", "A", "a", "a\x00", "a\x00b", "aa", "aaa", "ab", "b", "key", "key1", "key10", "key2", "é", "日本",
		"\x7f", "\x80", "\xbf", "\xc3", "\xc3\x28", "\xed\xa0\x80", "\xf4\x90\x80\x80", "\xff", "\xff\x00", "\xff\xff", "\ufffd",
		strings.Repeat("a", 40), strings.Repeat("a", 41), strings.Repeat("k", 1000), strings.Repeat("k", 1000) + "k", strings.Repeat("\xff", 70000), strings.Repeat("\x00", 300),
	}
	slices.Sort(l)
	return l
}

// locs have fields of any sign and size.
func locs() []api.Loc {
	l := []api.Loc{{}, {Seq: math.MaxUint64}}
	for _, n := range []int{1, -1, 2, -2, 300, 1 << 20, -1 << 31, 1 << 32, math.MaxInt, math.MinInt} {
		l = append(l, api.Loc{Seg: n}, api.Loc{Off: n}, api.Loc{Len: n}, api.Loc{Seq: uint64(n)}, api.Loc{Seg: n, Off: -n, Len: n / 2, Seq: uint64(n) / 3})
	}
	return l
}

// wantFars complains if keys are other numbers of places behind their homes.
func wantFars(t *testing.T, d *keydir.Dir, fars map[string]int) {
	t.Helper()
	for k, want := range fars {
		if far, present := d.Far(k); far != want || !present {
			t.Errorf("Far(%q) = %d, %v; want %d", k, far, present, want)
		}
	}
}

// wantNot complains if a key is present.
func wantNot(t *testing.T, d *keydir.Dir, keys ...string) {
	t.Helper()
	for _, k := range keys {
		if l, present := d.Get(k); present || l != (api.Loc{}) {
			t.Errorf("Get(%q) = %v, %v", k, l, present)
		}
		if far, present := d.Far(k); present || far != 0 {
			t.Errorf("Far(%q) = %d, %v", k, far, present)
		}
		before := contents(d, nil)
		if d.Delete(k) || contents(d, nil) != before {
			t.Errorf("Delete(%q) changes %s to %s", k, before, contents(d, nil))
		}
	}
}

// wantSize complains about another number of keys or of places.
func wantSize(t *testing.T, d *keydir.Dir, keys, places int) {
	t.Helper()
	if d.Len() != keys || d.Cap() != places {
		t.Errorf("%d of %d, want %d of %d", d.Len(), d.Cap(), keys, places)
	}
}

// P10.1

func TestNewIsEmpty(t *testing.T) {
	d := keydir.New()
	if d == nil {
		t.Fatal("no directory")
	}
	wantSize(t, d, 0, 8)
	wantNot(t, d, edgeKeys()...)
	if l := pairs(d.From("")); len(l) != 0 {
		t.Errorf("keys %v", l)
	}
}

func TestExamples(t *testing.T) {
	d := keydir.New()
	for i, k := range []string{"a", "b", "c", "d"} {
		d.Put(k, loc(i))
		wantSize(t, d, i+1, 8)
	}
	d.Put("e", loc(4))
	wantSize(t, d, 5, 16)
	for i, k := range []string{"a", "b", "c", "d", "e"} {
		if l, present := d.Get(k); l != loc(i) || !present {
			t.Errorf("Get(%q) = %v, %v", k, l, present)
		}
	}
}

func TestEdgeKeys(t *testing.T) {
	d, p := keydir.New(), newPlain()
	keys := edgeKeys()
	for i, k := range keys {
		wantNot(t, d, keys[i:]...)
		d.Put(k, loc(i))
		p.Put(k, loc(i))
		compare(t, d, p, keys)
	}
	for i, k := range keys {
		if l, present := d.Get(k); l != loc(i) || !present {
			t.Errorf("Get(%.50q) = %v, %v", k, l, present)
		}
	}
	for i := range keys {
		k := keys[(i*7+3)%len(keys)]
		if !d.Delete(k) || !p.Delete(k) {
			t.Errorf("Delete(%.50q) finds none", k)
		}
		wantNot(t, d, k)
		compare(t, d, p, keys)
	}
	wantSize(t, d, 0, p.Cap())
}

func TestTheEmptyKeyAtTheZeroPosition(t *testing.T) {
	d := keydir.New()
	d.Put("", api.Loc{})
	wantSize(t, d, 1, 8)
	if l, present := d.Get(""); l != (api.Loc{}) || !present {
		t.Errorf("Get = %v, %v", l, present)
	}
	wantFars(t, d, map[string]int{"": 0})
	if l := pairs(d.From("")); !slices.Equal(l, []pair{{}}) {
		t.Errorf("keys %v", l)
	}
	// A key with the same home is behind it: the place is occupied.
	other := at(hash.Place("", 8), 8, 1)[0]
	d.Put(other, api.Loc{})
	wantFars(t, d, map[string]int{"": 0, other: 1})
	wantSize(t, d, 2, 8)
	if !d.Delete("") || d.Delete("") {
		t.Error("Delete")
	}
	wantFars(t, d, map[string]int{other: 0})
	wantNot(t, d, "")
}

func TestPutOfAPresentKeyChangesItsPositionAlone(t *testing.T) {
	for _, many := range []int{1, 2, 3, 4, 5, 8, 9, 16, 40} {
		keys := make([]string, many)
		for i := range keys {
			keys[i] = strconv.Itoa(100 + i)
		}
		d, p := filled(keys...), newPlain()
		for i, k := range keys {
			p.Put(k, loc(i))
		}
		places := d.Cap()
		fars := map[string]int{}
		for _, k := range keys {
			fars[k], _ = d.Far(k)
		}
		for i, k := range keys {
			for _, l := range []api.Loc{loc(1000 + i), {}, loc(1000 + i), loc(1000 + i), loc(-i - 1)} {
				d.Put(k, l)
				p.Put(k, l)
				if got, present := d.Get(k); got != l || !present {
					t.Errorf("Get(%q) = %v, %v; want %v", k, got, present, l)
				}
				wantSize(t, d, many, places)
				wantFars(t, d, fars)
				compare(t, d, p, keys)
			}
		}
	}
}

func TestPositionsOfAnySignAndSize(t *testing.T) {
	d := keydir.New()
	for i, l := range locs() {
		d.Put("k"+strconv.Itoa(i), l)
		d.Put("same", l)
		if got, present := d.Get("same"); got != l || !present {
			t.Errorf("Get = %v, %v; want %v", got, present, l)
		}
	}
	for i, l := range locs() {
		if got, present := d.Get("k" + strconv.Itoa(i)); got != l || !present {
			t.Errorf("Get = %v, %v; want %v", got, present, l)
		}
	}
	told := map[string]api.Loc{}
	for k, l := range d.From("k") {
		told[k] = l
	}
	for i, l := range locs() {
		if k := "k" + strconv.Itoa(i); told[k] != l {
			t.Errorf("From tells %v of %q, want %v", told[k], k, l)
		}
	}
}

// orders are the same keys in other orders: increasing, decreasing, and drawn ones.
func orders(keys []string) [][]string {
	rising := slices.Sorted(slices.Values(keys))
	falling := slices.Clone(rising)
	slices.Reverse(falling)
	l := [][]string{rising, falling}
	r := rand.New(rand.NewPCG(1, 10))
	for range 3 {
		drawn := slices.Clone(rising)
		r.Shuffle(len(drawn), func(i, j int) { drawn[i], drawn[j] = drawn[j], drawn[i] })
		l = append(l, drawn)
	}
	return l
}

func TestCapDoublesAtEachPowerOfTwo(t *testing.T) {
	var keys []string
	for n := range 1100 {
		keys = append(keys, "key"+strconv.Itoa(n))
	}
	for _, order := range orders(keys) {
		d, p := keydir.New(), newPlain()
		places := 8
		for i, k := range order {
			if i == places/2 {
				places *= 2
			}
			d.Put(k, loc(i))
			p.Put(k, loc(i))
			wantSize(t, d, i+1, places)
			if i+1 == places/2 {
				// Half of all places is not more than half, and no new key is no reason.
				d.Put(order[i/2], loc(i/2))
				wantSize(t, d, i+1, places)
			}
			if i < 40 || i == places/2-1 || i == places/4 {
				compare(t, d, p, nil)
			}
		}
	}
}

func TestManyKeys(t *testing.T) {
	const many = 1 << 16
	d := keydir.New()
	for i := range many {
		d.Put(strconv.Itoa(i*7919%many), loc(i*7919%many))
	}
	wantSize(t, d, many, 2*many)
	theorem(t, d)
	for i := range many {
		if l, present := d.Get(strconv.Itoa(i)); l != loc(i) || !present {
			t.Fatalf("Get(%d) = %v, %v", i, l, present)
		}
	}
	d.Put("one more", loc(1))
	wantSize(t, d, many+1, 4*many)
	theorem(t, d)
}

// sameHome are keys with one home in rings of 8 places and of 16, in increasing order, and others that have other homes.
func sameHome(many int) (same, others []string) {
	home := hash.Place("k1", 16)
	for n := 0; len(same) < many; n++ {
		if k := "k" + strconv.Itoa(1000+n); hash.Place(k, 16) == home {
			same = append(same, k)
		}
	}
	for n := 0; len(others) < many; n++ {
		k := "z" + strconv.Itoa(1000+n)
		if far := (hash.Place(k, 16) - home + 16) % 16; far >= many && far < 16-many {
			others = append(others, k)
		}
	}
	return same, others
}

func TestDoublingInsertsInIncreasingOrder(t *testing.T) {
	same, others := sameHome(4)
	for _, order := range orders(same) {
		d := filled(order...)
		for i, k := range order {
			wantFars(t, d, map[string]int{k: i})
		}
		wantSize(t, d, 4, 8)
		d.Put(others[0], loc(9))
		wantSize(t, d, 5, 16)
		wantFars(t, d, map[string]int{same[0]: 0, same[1]: 1, same[2]: 2, same[3]: 3})
	}
}

func TestTheNewKeyIsInsertedAfterTheDoubling(t *testing.T) {
	same, _ := sameHome(5)
	// The least key of all is behind the others, since they are inserted again ahead of it.
	d := filled(same[4], same[3], same[2], same[1], same[0])
	wantSize(t, d, 5, 16)
	wantFars(t, d, map[string]int{same[1]: 0, same[2]: 1, same[3]: 2, same[4]: 3, same[0]: 4})
	if l := keysOf(d.From("")); !slices.Equal(l, same) {
		t.Errorf("keys %q, want %q", l, same)
	}
}

func TestKeysWithOneHome(t *testing.T) {
	for home := range 8 {
		keys := at(home, 8, 4)
		for _, order := range permutations(keys) {
			d := filled(order...)
			for i, k := range order {
				wantFars(t, d, map[string]int{k: i})
				if l, present := d.Get(k); l != loc(i) || !present {
					t.Errorf("Get(%q) = %v, %v", k, l, present)
				}
			}
			// Others of the same home are searched up to the empty place.
			wantNot(t, d, at(home, 8, 12)[4:]...)
		}
	}
}

func TestKeysWithOneHomeInGreaterRings(t *testing.T) {
	for _, places := range []int{16, 32, 64, 128} {
		for home := 0; home < places; home += 5 {
			// They have one home in each smaller ring too, and increase, so that doublings leave their order.
			keys := at(home, places, places/2)
			d := filled(keys...)
			wantSize(t, d, places/2, places)
			for i, k := range keys {
				wantFars(t, d, map[string]int{k: i})
			}
			theorem(t, d)
		}
	}
}

func TestKeysGoOnAtTheFirstPlace(t *testing.T) {
	last, first := at(7, 8, 3), at(0, 8, 1)
	d := filled(last[2], last[0], first[0], last[1])
	wantSize(t, d, 4, 8)
	// Places 7, 0, 1 and 2.
	wantFars(t, d, map[string]int{last[2]: 0, last[0]: 1, first[0]: 1, last[1]: 3})
	theorem(t, d)
}

// P10.2

func TestKeysThatAreNotPresent(t *testing.T) {
	d := keydir.New()
	wantNot(t, d, "", "a", "b", "\xff", "a\x00")
	d.Put("a", loc(1))
	wantNot(t, d, "", "b", "aa", "A", "a\x00", "\xff")
	d.Delete("a")
	wantNot(t, d, "a", "", "b")
	wantSize(t, d, 0, 8)
	d.Put("b", loc(2))
	wantNot(t, d, "a", "")
	d.Put("a", loc(3))
	d.Delete("b")
	wantNot(t, d, "b", "")
	if l, present := d.Get("a"); l != loc(3) || !present {
		t.Errorf("Get = %v, %v", l, present)
	}
}

func TestDeleteInTheMidst(t *testing.T) {
	for home := range 8 {
		// Also around the end of the ring: from home 5 on, the four keys reach the first place.
		k := at(home, 8, 4)
		for gone := range 4 {
			d := filled(k...)
			if !d.Delete(k[gone]) {
				t.Errorf("Delete(%q) finds none", k[gone])
			}
			wantSize(t, d, 3, 8)
			wantNot(t, d, k[gone])
			for i, other := range slices.Delete(slices.Clone(k), gone, gone+1) {
				wantFars(t, d, map[string]int{other: i})
			}
			if !d.Delete(k[(gone+1)%4]) {
				t.Errorf("Delete(%q) finds none", k[(gone+1)%4])
			}
			wantSize(t, d, 2, 8)
			theorem(t, d)
		}
	}
}

func TestDeleteInsertsAgainInOrderOfThePlaces(t *testing.T) {
	for home := range 8 {
		k := at(home, 8, 4)
		// The order is that of the places: not that of the keys, nor the reverse one.
		d := filled(k[3], k[1], k[2], k[0])
		d.Delete(k[3])
		wantFars(t, d, map[string]int{k[1]: 0, k[2]: 1, k[0]: 2})
		d.Put(k[3], loc(9))
		wantFars(t, d, map[string]int{k[1]: 0, k[2]: 1, k[0]: 2, k[3]: 3})
		d.Delete(k[2])
		wantFars(t, d, map[string]int{k[1]: 0, k[0]: 1, k[3]: 2})
	}
}

func TestDeleteLeavesKeysAtTheirHomes(t *testing.T) {
	for home := range 8 {
		mine, next, third := at(home, 8, 2), at((home+1)%8, 8, 1), at((home+2)%8, 8, 1)
		// Places home to home+3: one key at its home, then one that is displaced, and two at home or displaced by it.
		d := filled(mine[0], next[0], mine[1], third[0])
		wantFars(t, d, map[string]int{mine[0]: 0, next[0]: 0, mine[1]: 2, third[0]: 1})
		d.Delete(mine[0])
		// The key at its home stays, the displaced one jumps over it, and so the last one goes home.
		wantFars(t, d, map[string]int{next[0]: 0, mine[1]: 0, third[0]: 0})
		theorem(t, d)
		d = filled(mine[0], next[0], mine[1], third[0])
		d.Delete(next[0])
		wantFars(t, d, map[string]int{mine[0]: 0, mine[1]: 1, third[0]: 0})
		d = filled(mine[0], next[0], third[0])
		d.Delete(mine[0])
		wantFars(t, d, map[string]int{next[0]: 0, third[0]: 0})
	}
}

func TestDeleteEndsAtTheFirstEmptyPlace(t *testing.T) {
	for home := range 8 {
		mine, far := at(home, 8, 2), at((home+3)%8, 8, 2)
		// Two groups, with an empty place between: the other one stays as it is.
		d := filled(mine[0], far[1], mine[1], far[0])
		d.Delete(mine[0])
		wantFars(t, d, map[string]int{mine[1]: 0, far[1]: 0, far[0]: 1})
		d.Delete(mine[1])
		wantFars(t, d, map[string]int{far[1]: 0, far[0]: 1})
		d.Delete(far[1])
		wantFars(t, d, map[string]int{far[0]: 0})
		wantSize(t, d, 1, 8)
	}
}

func TestDeleteKeepsPositionsAndCap(t *testing.T) {
	d := keydir.New()
	for i := range 600 {
		d.Put(strconv.Itoa(i), loc(i))
	}
	wantSize(t, d, 600, 2048)
	for i := range 600 {
		if !d.Delete(strconv.Itoa(i)) {
			t.Errorf("Delete(%d) finds none", i)
		}
		wantSize(t, d, 599-i, 2048)
		for j := i + 1; j < 600; j += 37 {
			if l, present := d.Get(strconv.Itoa(j)); l != loc(j) || !present {
				t.Fatalf("Get(%d) = %v, %v", j, l, present)
			}
		}
	}
	if l := pairs(d.From("")); len(l) != 0 {
		t.Errorf("keys %v", l)
	}
	for i := range 600 {
		d.Put(strconv.Itoa(i), loc(i))
	}
	wantSize(t, d, 600, 2048)
	theorem(t, d)
}

func TestPutOfADeletedKey(t *testing.T) {
	d := filled("a", "b", "c", "d")
	for n := range 20 {
		if !d.Delete("b") {
			t.Error("Delete finds none")
		}
		wantNot(t, d, "b")
		wantSize(t, d, 3, 8)
		d.Put("b", loc(n))
		if l, present := d.Get("b"); l != loc(n) || !present {
			t.Errorf("Get = %v, %v", l, present)
		}
		wantSize(t, d, 4, 8)
	}
	theorem(t, d)
}

func TestADeletedKeyDoesNotCountForTheDoubling(t *testing.T) {
	d := keydir.New()
	for n := range 1000 {
		d.Put(strconv.Itoa(n), loc(n))
		wantSize(t, d, min(n+1, 4), 8)
		if n >= 3 {
			d.Delete(strconv.Itoa(n - 3))
		}
	}
	if l := keysOf(d.From("")); !slices.Equal(l, []string{"997", "998", "999"}) {
		t.Errorf("keys %q", l)
	}
}

// P10.3

func TestFarOfKeysAtHome(t *testing.T) {
	for home := range 8 {
		k := at(home, 8, 1)[0]
		d := filled(k)
		wantFars(t, d, map[string]int{k: 0})
	}
}

func TestFarAfterADoubling(t *testing.T) {
	// Two keys that have one home among 8 places can have two among 16.
	k := at(7, 8, 40)
	low := slices.IndexFunc(k, func(s string) bool { return hash.Place(s, 16) == 7 })
	high := slices.IndexFunc(k, func(s string) bool { return hash.Place(s, 16) == 15 })
	others := at(0, 8, 1)
	d := filled(k[low], k[high], "a", "b")
	wantFars(t, d, map[string]int{k[low]: 0, k[high]: 1})
	d.Put(others[0], loc(5))
	theorem(t, d)
	if far, _ := d.Far(k[high]); hash.Place(k[high], 16) != 15 || far != 0 {
		t.Errorf("Far = %d", far)
	}
}

func TestFromEachKey(t *testing.T) {
	keys := edgeKeys()
	r := rand.New(rand.NewPCG(2, 10))
	d := keydir.New()
	for _, i := range r.Perm(len(keys)) {
		d.Put(keys[i], loc(i))
	}
	all := []pair{}
	for i, k := range keys {
		all = append(all, pair{k, loc(i)})
	}
	for i, k := range keys {
		if l := pairs(d.From(k)); !slices.Equal(l, all[i:]) {
			t.Errorf("From(%.50q) has %d pairs, want %d", k, len(l), len(all)-i)
		}
		// The least key above k is k with a zero byte.
		from := i + 1
		if from < len(keys) && keys[from] == k+"\x00" {
			continue
		}
		if l := pairs(d.From(k + "\x00")); !slices.Equal(l, all[from:]) {
			t.Errorf("From behind %.50q has %d pairs, want %d", k, len(l), len(all)-from)
		}
	}
	if l := pairs(d.From(keys[len(keys)-1] + "\xff")); len(l) != 0 {
		t.Errorf("%d keys beyond all", len(l))
	}
}

func TestFromKeysThatAreNotPresent(t *testing.T) {
	d := filled("b", "d", "\xff", "bb", "\x01")
	for _, c := range []struct {
		from string
		want []string
	}{
		{"", []string{"\x01", "b", "bb", "d", "\xff"}},
		{"\x00", []string{"\x01", "b", "bb", "d", "\xff"}},
		{"\x01", []string{"\x01", "b", "bb", "d", "\xff"}},
		{"\x01\x00", []string{"b", "bb", "d", "\xff"}},
		{"a", []string{"b", "bb", "d", "\xff"}},
		{"azzz", []string{"b", "bb", "d", "\xff"}},
		{"b", []string{"b", "bb", "d", "\xff"}},
		{"b\x00", []string{"bb", "d", "\xff"}},
		{"ba", []string{"bb", "d", "\xff"}},
		{"bb", []string{"bb", "d", "\xff"}},
		{"bbb", []string{"d", "\xff"}},
		{"c", []string{"d", "\xff"}},
		{"e", []string{"\xff"}},
		{"\x7f", []string{"\xff"}},
		{"\x80", []string{"\xff"}},
		{"\xff", []string{"\xff"}},
		{"\xff\x00", nil},
		{"\xff\xff", nil},
		{strings.Repeat("\xff", 5000), nil},
		{strings.Repeat("c", 5000), []string{"d", "\xff"}},
	} {
		if l := keysOf(d.From(c.from)); !slices.Equal(l, c.want) {
			t.Errorf("From(%.50q): %q, want %q", c.from, l, c.want)
		}
	}
}

func TestAnIterationThatIsBrokenOff(t *testing.T) {
	keys := []string{"a", "b", "c", "d", "e", "f"}
	d := filled("d", "b", "a", "f", "c", "e")
	before := contents(d, keys)
	for many := range len(keys) + 1 {
		var l []string
		calls := 0
		d.From("")(func(k string, _ api.Loc) bool {
			calls++
			l = append(l, k)
			return len(l) < many
		})
		if want := max(many, 1); calls != want || !slices.Equal(l, keys[:want]) {
			t.Errorf("broken off at %d: %q", many, l)
		}
		for k := range d.From("c") {
			if k == "d" {
				break
			}
			if k != "c" {
				t.Errorf("%q ahead of d", k)
			}
		}
		if after := contents(d, keys); after != before {
			t.Errorf("got %s, want %s", after, before)
		}
	}
	if got := func() string {
		for k := range d.From("b") {
			return k
		}
		return ""
	}(); got != "b" {
		t.Errorf("the first one is %q", got)
	}
}

func TestAnIteratorThatIsKept(t *testing.T) {
	d := keydir.New()
	seq, fromB := d.From(""), d.From("b")
	if l := pairs(seq); len(l) != 0 {
		t.Errorf("keys %v", l)
	}
	steps := []struct {
		do       func()
		all, toB []pair
	}{
		{func() { d.Put("a", loc(1)) }, []pair{{"a", loc(1)}}, nil},
		{func() { d.Put("c", loc(3)) }, []pair{{"a", loc(1)}, {"c", loc(3)}}, []pair{{"c", loc(3)}}},
		{func() { d.Put("b", loc(2)) }, []pair{{"a", loc(1)}, {"b", loc(2)}, {"c", loc(3)}}, []pair{{"b", loc(2)}, {"c", loc(3)}}},
		{func() { d.Put("b", loc(9)) }, []pair{{"a", loc(1)}, {"b", loc(9)}, {"c", loc(3)}}, []pair{{"b", loc(9)}, {"c", loc(3)}}},
		{func() { d.Delete("b") }, []pair{{"a", loc(1)}, {"c", loc(3)}}, []pair{{"c", loc(3)}}},
		{func() { d.Put("", loc(0)) }, []pair{{"", loc(0)}, {"a", loc(1)}, {"c", loc(3)}}, []pair{{"c", loc(3)}}},
		{func() { d.Put("bb", loc(4)); d.Put("ba", loc(5)) }, []pair{{"", loc(0)}, {"a", loc(1)}, {"ba", loc(5)}, {"bb", loc(4)}, {"c", loc(3)}}, []pair{{"ba", loc(5)}, {"bb", loc(4)}, {"c", loc(3)}}},
		{func() { d.Delete("c"); d.Delete("a"); d.Delete("ba"); d.Delete("bb") }, []pair{{"", loc(0)}}, nil},
		{func() { d.Delete("") }, nil, nil},
	}
	for i, step := range steps {
		step.do()
		for range 2 {
			if l := pairs(seq); !slices.Equal(l, step.all) {
				t.Errorf("step %d: %v, want %v", i, l, step.all)
			}
			if l := pairs(fromB); !slices.Equal(l, step.toB) {
				t.Errorf("step %d, from b: %v, want %v", i, l, step.toB)
			}
		}
	}
}

func TestIterationsWithinOneAnother(t *testing.T) {
	d := filled("c", "a", "b")
	var l []string
	seq := d.From("")
	for k := range seq {
		for other := range seq {
			for third := range d.From(other) {
				l = append(l, k+other+third)
			}
		}
	}
	want := strings.Fields("aaa aab aac abb abc acc baa bab bac bbb bbc bcc caa cab cac cbb cbc ccc")
	if !slices.Equal(l, want) {
		t.Errorf("%q, want %q", l, want)
	}
}

func TestDeleteOfEachKeyThatAnIterationTells(t *testing.T) {
	var keys []string
	for i := range 100 {
		keys = append(keys, strconv.Itoa(100+i))
	}
	d := filled(keys...)
	var l []string
	for k := range d.From("") {
		if !d.Delete(k) {
			t.Errorf("Delete(%q) finds none", k)
		}
		l = append(l, k)
	}
	if !slices.Equal(l, keys) {
		t.Errorf("%q", l)
	}
	wantSize(t, d, 0, 256)
}

// The chapter tells nothing of changes in the midst of an iteration; it ends, with the keys that it started with.
func TestAnIterationTellsOneMoment(t *testing.T) {
	d := filled("a", "c", "e")
	var l []pair
	for k, at := range d.From("") {
		l = append(l, pair{k, at})
		d.Put(k+"x", loc(100))
		d.Put("e", loc(101))
		d.Delete("c")
	}
	if want := []pair{{"a", loc(0)}, {"c", loc(1)}, {"e", loc(2)}}; !slices.Equal(l, want) {
		t.Errorf("%v, want %v", l, want)
	}
	if l := keysOf(d.From("")); !slices.Equal(l, []string{"a", "ax", "cx", "e", "ex"}) {
		t.Errorf("%q", l)
	}
	theorem(t, d)
}

// P10.4

// step makes one call on both directories, and compares its result.
func step(t *testing.T, d, p directory, what int, key string, l api.Loc) {
	t.Helper()
	switch what {
	case 0, 1, 2:
		d.Put(key, l)
		p.Put(key, l)
	case 3, 4:
		if got, want := d.Delete(key), p.Delete(key); got != want {
			t.Fatalf("Delete(%q) = %v, want %v", key, got, want)
		}
	case 5:
		if got, want := pairs(d.From(key)), pairs(p.From(key)); !slices.Equal(got, want) {
			t.Fatalf("From(%q) = %v, want %v", key, got, want)
		}
	}
}

func TestDrawnScripts(t *testing.T) {
	r := rand.New(rand.NewPCG(3, 10))
	short := slices.DeleteFunc(edgeKeys(), func(k string) bool { return len(k) > 50 })
	positions := locs()
	for n := range 200 {
		keys := short
		if n%2 == 0 {
			keys = nil
			for i := range 1 + r.IntN(120) {
				keys = append(keys, strconv.Itoa(i))
			}
		}
		d, p := keydir.New(), newPlain()
		// Some scripts mostly put, others mostly delete, behind a while of putting.
		puts := r.IntN(6)
		for i := range 300 {
			what := r.IntN(6)
			if i > 100 && r.IntN(6) > puts {
				what = 3
			}
			step(t, d, p, what, keys[r.IntN(len(keys))], positions[r.IntN(len(positions))])
			if i%10 == 0 {
				compare(t, d, p, keys)
			} else {
				theorem(t, d)
			}
		}
		compare(t, d, p, keys)
	}
}

func TestDrawnScriptsOfCrowdedKeys(t *testing.T) {
	r := rand.New(rand.NewPCG(4, 10))
	for range 150 {
		// All homes are among a few places, on both sides of the ring's end, also when there are more of them.
		places := 8 << r.IntN(3)
		from := r.IntN(places)
		var keys []string
		for i := range places {
			keys = append(keys, at((from+i%3)%places, places, 1+i/3)[i/3])
		}
		d, p := keydir.New(), newPlain()
		for range 150 {
			step(t, d, p, r.IntN(6), keys[r.IntN(places/2+1)], loc(r.IntN(50)))
			compare(t, d, p, keys)
		}
	}
}

func TestAllShortScripts(t *testing.T) {
	// Four keys of three homes at the ring's end, put in each order, and then every script of four calls with them and a fifth one.
	keys := append(at(6, 8, 2), at(7, 8, 1)[0], at(0, 8, 1)[0])
	fifth := at(7, 8, 2)[1]
	for _, order := range permutations(keys) {
		for script := range 10_000 {
			d, p := keydir.New(), newPlain()
			for i, k := range order {
				d.Put(k, loc(i))
				p.Put(k, loc(i))
			}
			for rest := script; rest > 0; rest /= 10 {
				step(t, d, p, rest%2*3, append(order, fifth)[rest/2%5], loc(rest))
			}
			for _, k := range append(order, fifth) {
				far, present := d.Far(k)
				if want, is := p.Far(k); far != want || present != is || d.Cap() != p.Cap() {
					t.Fatalf("script %d: Far(%q) = %d, %v of %d; want %d, %v of %d", script, k, far, present, d.Cap(), want, is, p.Cap())
				}
			}
		}
	}
}

// permutations are all orders of keys.
func permutations(keys []string) [][]string {
	if len(keys) == 0 {
		return [][]string{nil}
	}
	var l [][]string
	for i, k := range keys {
		for _, rest := range permutations(slices.Delete(slices.Clone(keys), i, i+1)) {
			l = append(l, append([]string{k}, rest...))
		}
	}
	return l
}

// R3, R4

func TestDirectoriesShareNothing(t *testing.T) {
	a, b := filled("a", "b", "c"), filled("a", "b", "c")
	before := contents(b, nil)
	seq := b.From("")
	a.Put("a", loc(50))
	a.Delete("b")
	for i := range 100 {
		a.Put(strconv.Itoa(i), loc(i))
	}
	if after := contents(b, nil); after != before {
		t.Errorf("got %s, want %s", after, before)
	}
	if l := keysOf(seq); !slices.Equal(l, []string{"a", "b", "c"}) {
		t.Errorf("keys %q", l)
	}
	if c := keydir.New(); c.Len() != 0 || c.Cap() != 8 {
		t.Errorf("a new one has %d of %d", c.Len(), c.Cap())
	}
}

func TestTheSameCallsHaveTheSameResults(t *testing.T) {
	run := func() string {
		d := keydir.New()
		r := rand.New(rand.NewPCG(5, 10))
		for range 2000 {
			k := strconv.Itoa(r.IntN(300))
			if r.IntN(3) == 0 {
				d.Delete(k)
			} else {
				d.Put(k, loc(r.IntN(1000)))
			}
		}
		return contents(d, nil)
	}
	first := run()
	for range 5 {
		if run() != first {
			t.Fatal("another result")
		}
	}
}

func TestAskingChangesNothing(t *testing.T) {
	d := filled("a", "b", "c", "d", "e")
	before := contents(d, nil)
	for _, k := range append(edgeKeys(), "b", "c", "d", "e") {
		d.Get(k)
		d.Far(k)
		d.Len()
		d.Cap()
		pairs(d.From(k))
		if after := contents(d, nil); after != before {
			t.Fatalf("got %s, want %s", after, before)
		}
	}
}

func FuzzScripts(f *testing.F) {
	f.Add([]byte("\x00a\x00b\x00c\x00d\x00e\x03a\x03c\x00a\x05b"))
	f.Add([]byte("\x00\x00\x00\xff\x03\x00\x00\x00\x03\xff"))
	f.Add([]byte("\x00a\x01b\x02c\x00d\x03b\x00b\x00e\x00f\x00g\x00h\x00i\x04c"))
	f.Fuzz(func(t *testing.T, b []byte) {
		d, p := keydir.New(), newPlain()
		var keys []string
		for i := 0; i+1 < min(len(b), 400); i += 2 {
			// Some keys are beginnings of others.
			k := strings.Repeat(string(b[i+1:i+2]), int(b[i]>>4)%4)
			keys = append(keys, k)
			step(t, d, p, int(b[i])%6, k, loc(i-int(b[i])))
			theorem(t, d)
		}
		compare(t, d, p, keys)
	})
}
