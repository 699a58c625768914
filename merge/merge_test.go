package merge_test

import (
	"fmt"
	"math"
	"math/rand/v2"
	"slices"
	"strings"
	"testing"

	"thwart/api"
	"thwart/merge"
)

// recs is a list of records, for tables.
type recs = []api.Rec

// lists are those that are merged, for tables.
type lists = [][]api.Rec

// put is a write of a value.
func put(seq uint64, key, value string) api.Rec {
	return api.Rec{Seq: seq, Key: key, Value: value}
}

// del is a deletion.
func del(seq uint64, key string) api.Rec {
	return api.Rec{Seq: seq, Key: key, Gone: true}
}

// keysInOrder are in increasing order: some begin others, have bytes above 127, are no text, or are longer than a valid one.
var keysInOrder = []string{
	"", "\x00", "\x00\x00", "\x00a", "\x01", "A", "Z", "a", "a\x00", "a\x00\x00", "a\x00b", "aa", "aaa", "ab", "a\x7f", "a\x80", "a\xff", "a\xff\xff", "b", "b\x00",
	strings.Repeat("k", 40), strings.Repeat("k", 41), strings.Repeat("k", 300), strings.Repeat("k", 300) + "\x00", "z", "\x7f", "\x7f\xff", "\x80", "\x80\x00", "\xc3", "\xc3\x28", "é", "é1", "\xef\xbf", "\ufffd", "\xf0\x9f\x98\x80", "\xfe", "\xff", "\xff\x00", "\xff\xff",
}

// numbers are Seqs near all edges, also of signed and of shorter integers, and of those that are valid.
var numbers = []uint64{0, 1, 2, 7, math.MaxUint32, math.MaxUint32 + 1, api.MostSeq - 1, api.MostSeq, api.MostSeq + 1, math.MaxInt64 - 1, math.MaxInt64, math.MaxInt64 + 1, math.MaxInt64 + 2, math.MaxUint64 - 1, math.MaxUint64}

// less tells whether a is before b, byte by byte, with a proper prefix first.
func less(a, b string) bool {
	for i := range min(len(a), len(b)) {
		if a[i] != b[i] {
			return a[i] < b[i]
		}
	}
	return len(a) < len(b)
}

// plainNewest follows the words of Newest: it looks through all records for a newer one of each, and inserts those that have none where their keys belong.
func plainNewest(l lists) recs {
	all := slices.Concat(l...)
	var newest recs
	for i, r := range all {
		beaten := false
		for j, other := range all {
			if other.Key == r.Key && (other.Seq > r.Seq || other.Seq == r.Seq && j > i) {
				beaten = true
			}
		}
		if beaten {
			continue
		}
		at := 0
		for at < len(newest) && less(newest[at].Key, r.Key) {
			at++
		}
		newest = slices.Insert(newest, at, r)
	}
	return newest
}

// plainLive follows the words of Live.
func plainLive(l lists) recs {
	var live recs
	for _, r := range plainNewest(l) {
		if !r.Gone {
			live = append(live, r)
		}
	}
	return live
}

// roomy is a copy of l whose lists all have room for more records, which are marked.
func roomy(l lists) lists {
	if l == nil {
		return nil
	}
	copied := make(lists, 0, len(l)+3)
	for _, list := range l {
		copied = append(copied, roomyList(list))
	}
	return copied
}

func roomyList(l recs) recs {
	if l == nil {
		return nil
	}
	wide := make(recs, len(l)+4)
	for i := range wide {
		wide[i] = put(99, "behind the end", "marked")
	}
	copy(wide, l)
	return wide[:len(l)]
}

// untouched fails if a roomy copy is not as it was made of l, behind the ends of its lists too.
func untouched(t *testing.T, call string, given, l lists) {
	t.Helper()
	if len(given) != len(l) {
		t.Fatalf("%s has made %d lists of %d", call, len(given), len(l))
	}
	for i := range l {
		untouchedList(t, call, given[i], l[i])
	}
}

func untouchedList(t *testing.T, call string, given, l recs) {
	t.Helper()
	if !slices.Equal(given, l) {
		t.Fatalf("%s has made %s of %s", call, tell(given), tell(l))
	}
	if want := roomyList(l); !slices.Equal(given[:cap(given)], want[:cap(want)]) {
		t.Fatalf("%s has written behind the end of %s", call, tell(l))
	}
}

// check compares what the three calls return for l, and looks whether l stays as it is.
func check(t *testing.T, l lists, newest, live recs) {
	t.Helper()
	for _, c := range []struct {
		name string
		call func(l ...[]api.Rec) []api.Rec
		want recs
	}{
		{"Newest", merge.Newest, newest},
		{"Live", merge.Live, live},
		{"Merge with elder ones", func(l ...[]api.Rec) []api.Rec { return merge.Merge(true, l...) }, newest},
		{"Merge without elder ones", func(l ...[]api.Rec) []api.Rec { return merge.Merge(false, l...) }, live},
	} {
		given := roomy(l)
		same(t, c.name, l, c.call(given...), c.want)
		untouched(t, c.name, given, l)
	}
}

// checkByWords compares with the second reading of the chapter.
func checkByWords(t *testing.T, l lists) {
	t.Helper()
	check(t, l, plainNewest(l), plainLive(l))
}

// same fails if two results of the same lists are not.
func same(t *testing.T, what string, l lists, got, want recs) {
	t.Helper()
	if !slices.Equal(got, want) {
		t.Fatalf("%s, of %s:\n got %s\nwant %s", what, tell(l), tell(got), tell(want))
	}
}

// tell is what a failed test tells of records: not all of very many.
func tell(l any) string {
	return fmt.Sprintf("%.3000s", fmt.Sprintf("%#v", l))
}

// drawn are lists of records with few keys and Seqs, so that many keys are there twice, and some Seqs of a key too; each Value is another one.
func drawn(r *rand.Rand, keys []string, seqs []uint64) lists {
	l := make(lists, r.IntN(6))
	for i := range l {
		l[i] = make(recs, r.IntN(8))
		for j := range l[i] {
			l[i][j] = api.Rec{Seq: seqs[r.IntN(len(seqs))], Key: keys[r.IntN(len(keys))], Value: fmt.Sprint(r.Uint64()), Gone: r.IntN(3) == 0}
		}
	}
	return l
}

// someOf are up to most of l.
func someOf[T any](r *rand.Rand, l []T, most int) []T {
	var some []T
	for range 1 + r.IntN(most) {
		some = append(some, l[r.IntN(len(l))])
	}
	return some
}

// shuffled has the same elements.
func shuffled[T any](r *rand.Rand, l []T) []T {
	l = slices.Clone(l)
	r.Shuffle(len(l), func(i, j int) { l[i], l[j] = l[j], l[i] })
	return l
}

// P15.1: Newest and Live, and P15.2: Merge of the same lists

func TestNoRecords(t *testing.T) {
	for _, l := range []lists{nil, {}, {nil}, {{}}, {nil, nil}, {{}, nil, {}}} {
		check(t, l, nil, nil)
	}
	if l := merge.Newest(); len(l) != 0 {
		t.Errorf("Newest of no list: %s", tell(l))
	}
	if l := merge.Live(); len(l) != 0 {
		t.Errorf("Live of no list: %s", tell(l))
	}
	for _, elder := range []bool{true, false} {
		if l := merge.Merge(elder); len(l) != 0 {
			t.Errorf("Merge(%t) of no list: %s", elder, tell(l))
		}
	}
}

func TestTheExample(t *testing.T) {
	a, gone, b := put(1, "a", "x"), del(3, "a"), put(2, "b", "y")
	for _, l := range []lists{
		{{a, gone, b}}, {{b, gone, a}}, {{gone, b, a}}, {{a}, {gone}, {b}}, {{gone}, {a, b}}, {{b}, {}, {gone, a}}, {{}, {b, gone}, {a}, {}},
	} {
		check(t, l, recs{gone, b}, recs{b})
	}
}

func TestOneRecord(t *testing.T) {
	for _, key := range keysInOrder {
		for _, seq := range numbers {
			r := put(seq, key, "v")
			for _, l := range []lists{{{r}}, {{}, {r}}, {{r}, nil}, {nil, {}, {r}, {}}} {
				check(t, l, recs{r}, recs{r})
			}
			check(t, lists{{del(seq, key)}}, recs{del(seq, key)}, nil)
		}
	}
}

func TestTheGreaterNumber(t *testing.T) {
	for i, old := range numbers {
		for _, later := range numbers[i+1:] {
			for _, key := range []string{"", "k", "\xff"} {
				a, b := put(old, key, "old"), put(later, key, "later")
				for _, l := range []lists{
					{{a, b}}, {{b, a}}, {{a}, {b}}, {{b}, {a}}, {{a}, {}, {b}}, {{b}, nil, {a}},
					{{a, b, a}}, {{b, a, a}}, {{a}, {b}, {a}}, {{b}, {a, a}}, {{a, a}, {b, a}},
				} {
					check(t, l, recs{b}, recs{b})
				}
			}
		}
	}
}

func TestEqualNumbers(t *testing.T) {
	for _, seq := range numbers {
		a, b, c := put(seq, "k", "a"), put(seq, "k", "b"), del(seq, "k")
		for _, x := range []struct {
			l            lists
			newest, live recs
		}{
			{lists{{a, b}}, recs{b}, recs{b}},
			{lists{{b, a}}, recs{a}, recs{a}},
			{lists{{a}, {b}}, recs{b}, recs{b}},
			{lists{{b}, {a}}, recs{a}, recs{a}},
			{lists{{a}, {}, nil, {b}, {}}, recs{b}, recs{b}},
			{lists{{a, b, c}}, recs{c}, nil},
			{lists{{c, a, b}}, recs{b}, recs{b}},
			{lists{{a}, {b}, {c}}, recs{c}, nil},
			{lists{{c}, {b}, {a}}, recs{a}, recs{a}},
			{lists{{b, c}, {a}}, recs{a}, recs{a}},
			{lists{{a}, {b, c}}, recs{c}, nil},
			{lists{{a, a}, {a}}, recs{a}, recs{a}},
			{lists{{c, c}, {c}}, recs{c}, nil},
		} {
			check(t, x.l, x.newest, x.live)
		}
	}
}

// The one that comes later is not the newest one if it ties with another than the greatest.
func TestEqualNumbersBehindAGreaterOne(t *testing.T) {
	a, b, top := put(4, "k", "a"), put(4, "k", "b"), put(5, "k", "top")
	for _, l := range []lists{{{top, a, b}}, {{a, top, b}}, {{a, b, top}}, {{top}, {a}, {b}}, {{a}, {top}, {b}}, {{a, b}, {top}}} {
		check(t, l, recs{top}, recs{top})
	}
}

func TestDeletions(t *testing.T) {
	a, b := put(3, "a", "x"), put(4, "b", "y")
	for _, c := range []struct {
		l            lists
		newest, live recs
	}{
		// The newest one of its key.
		{lists{{a, del(5, "a")}}, recs{del(5, "a")}, nil},
		{lists{{del(5, "a"), a}}, recs{del(5, "a")}, nil},
		{lists{{del(5, "a")}, {a, b}}, recs{del(5, "a"), b}, recs{b}},
		{lists{{a, b}, {del(5, "b")}, {del(6, "a")}}, recs{del(6, "a"), del(5, "b")}, nil},
		{lists{{del(5, "a"), del(6, "a")}, {a, b}}, recs{del(6, "a"), b}, recs{b}},
		{lists{{b}, {del(9, "c")}}, recs{b, del(9, "c")}, recs{b}},
		{lists{{del(0, "")}, {b}}, recs{del(0, ""), b}, recs{b}},
		// Not the newest one.
		{lists{{del(2, "a"), a}}, recs{a}, recs{a}},
		{lists{{a, del(2, "a")}}, recs{a}, recs{a}},
		{lists{{a}, {del(2, "a"), del(1, "a")}, {b, del(3, "b")}}, recs{a, b}, recs{a, b}},
		{lists{{del(2, "a")}, {a}, {del(1, "a")}}, recs{a}, recs{a}},
		{lists{{del(math.MaxUint64-1, "a")}, {put(math.MaxUint64, "a", "")}}, recs{put(math.MaxUint64, "a", "")}, recs{put(math.MaxUint64, "a", "")}},
		// Of another key.
		{lists{{put(1, "a", "x"), del(9, "aa"), del(8, "")}}, recs{del(8, ""), put(1, "a", "x"), del(9, "aa")}, recs{put(1, "a", "x")}},
	} {
		check(t, c.l, c.newest, c.live)
	}
}

// A Value, or none, does not tell whether a record is a deletion.
func TestDeletionsWithAValueAndWritesWithout(t *testing.T) {
	gone := api.Rec{Seq: 7, Key: "k", Value: "v", Gone: true}
	stays := put(8, "l", "")
	check(t, lists{{gone}}, recs{gone}, nil)
	check(t, lists{{gone, put(6, "k", "v")}}, recs{gone}, nil)
	check(t, lists{{put(7, "k", "w"), gone}}, recs{gone}, nil)
	check(t, lists{{gone, put(8, "k", "v")}}, recs{put(8, "k", "v")}, recs{put(8, "k", "v")})
	check(t, lists{{gone, put(7, "k", "")}}, recs{put(7, "k", "")}, recs{put(7, "k", "")})
	check(t, lists{{stays}, {gone}}, recs{gone, stays}, recs{stays})
	check(t, lists{{del(7, "k"), gone}}, recs{gone}, nil)
	check(t, lists{{gone, del(7, "k")}}, recs{del(7, "k")}, nil)
}

func TestAllFieldsComeBack(t *testing.T) {
	long := strings.Repeat("v\x00\xff", 1000)
	want := recs{
		{Seq: 0, Key: "", Value: "\x00"},
		{Seq: math.MaxUint64, Key: "\x00\xff", Value: long, Gone: true},
		{Seq: math.MaxInt64 + 1, Key: "k", Value: ""},
		{Seq: 1, Key: "l", Value: "\xff", Gone: true},
		{Seq: api.MostSeq, Key: "m", Value: long},
	}
	live := recs{want[0], want[2], want[4]}
	check(t, lists{want}, want, live)
	check(t, lists{{want[4], want[1]}, {want[3], want[0], want[2]}}, want, live)
}

func TestTheOrderOfTheKeys(t *testing.T) {
	if !slices.IsSorted(keysInOrder) || len(slices.Compact(slices.Clone(keysInOrder))) != len(keysInOrder) {
		t.Fatal("the keys of the test are in another order")
	}
	var newest, live recs
	for i, key := range keysInOrder {
		// Their numbers, and which ones are gone, tell nothing of the order.
		r := api.Rec{Seq: uint64(i * 17 % 41), Key: key, Value: fmt.Sprint(i), Gone: i%5 == 2}
		newest = append(newest, r)
		if !r.Gone {
			live = append(live, r)
		}
	}
	reversed := slices.Clone(newest)
	slices.Reverse(reversed)
	check(t, lists{newest}, newest, live)
	check(t, lists{reversed}, newest, live)
	r := rand.New(rand.NewPCG(1, 2))
	for range 300 {
		mixed := shuffled(r, newest)
		cut := r.IntN(len(mixed) + 1)
		check(t, lists{mixed}, newest, live)
		check(t, lists{mixed[cut:], {}, mixed[:cut]}, newest, live)
	}
}

// Each pair of keys, in both orders: those that only look alike are two.
func TestPairsOfKeys(t *testing.T) {
	for i, a := range keysInOrder {
		for j, b := range keysInOrder {
			if i == j {
				continue
			}
			first, last := put(2, a, "1"), put(2, b, "2")
			want := recs{first, last}
			if j < i {
				want = recs{last, first}
			}
			check(t, lists{{first, last}}, want, want)
			check(t, lists{{first}, {last}}, want, want)
		}
	}
}

// everySequence calls f with all sequences of so many of the kinds, cut into lists at all places.
func everySequence(kinds recs, many int, f func(l lists)) {
	sequences := 1
	for range many {
		sequences *= len(kinds)
	}
	for s := range sequences {
		var l recs
		for i, n := 0, s; i < many; i, n = i+1, n/len(kinds) {
			r := kinds[n%len(kinds)]
			r.Value = fmt.Sprint(i)
			l = append(l, r)
		}
		for cuts := range 1 << max(many-1, 0) {
			parts := lists{nil}
			for i, r := range l {
				if i > 0 && cuts>>(i-1)&1 == 1 {
					parts = append(parts, nil)
				}
				parts[len(parts)-1] = append(parts[len(parts)-1], r)
			}
			f(parts)
		}
	}
}

func TestAllShortSequences(t *testing.T) {
	var kinds recs
	for _, key := range []string{"k", "kk"} {
		for seq := range uint64(2) {
			kinds = append(kinds, put(seq, key, ""), del(seq, key))
		}
	}
	for many := range 5 {
		everySequence(kinds, many, func(l lists) { checkByWords(t, l) })
	}
	for many := range 6 {
		everySequence(kinds[:4], many, func(l lists) { checkByWords(t, l) })
	}
}

func TestDrawnLists(t *testing.T) {
	r := rand.New(rand.NewPCG(3, 4))
	for range 20000 {
		checkByWords(t, drawn(r, someOf(r, keysInOrder, 6), someOf(r, numbers, 5)))
	}
}

func TestManyRecords(t *testing.T) {
	const keys, versions = 20000, 5
	r := rand.New(rand.NewPCG(5, 6))
	var all, newest, live recs
	for i := range keys {
		last := api.Rec{}
		for v := range uint64(versions) {
			last = api.Rec{Seq: v + 1, Key: fmt.Sprintf("%05d", i), Value: fmt.Sprint(v), Gone: r.IntN(2) == 0}
			all = append(all, last)
		}
		newest = append(newest, last)
		if !last.Gone {
			live = append(live, last)
		}
	}
	all = shuffled(r, all)
	check(t, lists{all}, newest, live)
	check(t, slices.Collect(slices.Chunk(all, 7)), newest, live)
}

// P15.2

func TestMergeOnTheSameLists(t *testing.T) {
	l := lists{{put(1, "a", "x"), put(2, "b", "y")}, {del(3, "a"), del(1, "b")}, {put(9, "c", "z"), del(9, "d")}}
	newest := recs{del(3, "a"), put(2, "b", "y"), put(9, "c", "z"), del(9, "d")}
	same(t, "with elder ones", l, merge.Merge(true, l...), newest)
	same(t, "without elder ones", l, merge.Merge(false, l...), recs{newest[1], newest[2]})
	same(t, "with elder ones", l[1:2], merge.Merge(true, l[1]), recs{del(3, "a"), del(1, "b")})
	same(t, "without elder ones", l[1:2], merge.Merge(false, l[1]), nil)
}

// P15.3

func TestBatches(t *testing.T) {
	for _, c := range []struct {
		records int
		sizes   []int
	}{
		{0, nil}, {1, []int{1}}, {2, []int{2}}, {15, []int{15}}, {16, []int{16}}, {17, []int{16, 1}}, {31, []int{16, 15}}, {32, []int{16, 16}}, {33, []int{16, 16, 1}},
		{48, []int{16, 16, 16}}, {49, []int{16, 16, 16, 1}}, {100, []int{16, 16, 16, 16, 16, 16, 4}},
	} {
		l := someRecords(c.records)
		var sizes []int
		for _, batch := range merge.Batches(l) {
			sizes = append(sizes, len(batch))
		}
		if !slices.Equal(sizes, c.sizes) {
			t.Errorf("batches of %d records have %d, want %d", c.records, sizes, c.sizes)
		}
	}
}

// someRecords are so many, in no order, some of them twice, and not all of them valid.
func someRecords(many int) recs {
	l := make(recs, many)
	for i := range l {
		l[i] = api.Rec{Seq: uint64(i) * 7 % 5, Key: keysInOrder[i*13%len(keysInOrder)], Value: fmt.Sprint(i / 2), Gone: i%3 == 1}
	}
	return l
}

func TestBatchesOfEachNumber(t *testing.T) {
	for many := range 200 {
		l := someRecords(many)
		given := roomyList(l)
		batches := merge.Batches(given)
		untouchedList(t, "Batches", given, l)
		if want := (many + 15) / 16; len(batches) != want {
			t.Fatalf("%d batches of %d records, want %d", len(batches), many, want)
		}
		for i, batch := range batches {
			same(t, fmt.Sprintf("batch %d", i), lists{l}, batch, l[16*i:min(16*i+16, many)])
		}
	}
}

func TestBatchesOfNoRecords(t *testing.T) {
	for _, l := range []recs{nil, {}, make(recs, 0, 40), someRecords(16)[:0]} {
		if got := merge.Batches(l); len(got) != 0 {
			t.Errorf("batches of no records: %s", tell(got))
		}
	}
}

func TestBatchesOfManyRecords(t *testing.T) {
	l := someRecords(100001)
	batches := merge.Batches(l)
	if len(batches) != 6251 || len(batches[6250]) != 1 {
		t.Fatalf("%d batches", len(batches))
	}
	same(t, "all batches", lists{l}, slices.Concat(batches...), l)
}

// P15.4

// newerThan are lists whose records are all newer than those of the same keys in l: their numbers are greater, or the same, and they come later.
func newerThan(r *rand.Rand, l lists, keys []string) lists {
	greatest := map[string]uint64{}
	for _, record := range slices.Concat(l...) {
		greatest[record.Key] = max(greatest[record.Key], record.Seq)
	}
	newer := drawn(r, keys, []uint64{0, 1, 2, 3})
	for _, list := range newer {
		for i := range list {
			list[i].Seq += min(greatest[list[i].Key], math.MaxUint64-3)
			list[i].Seq = max(list[i].Seq, greatest[list[i].Key])
		}
	}
	return newer
}

// Merged ones stand for those that they were merged of, with whatever is before and behind them.
func TestMergingSomeOfTheListsFirst(t *testing.T) {
	r := rand.New(rand.NewPCG(7, 8))
	changed := 0
	for range 20000 {
		keys, seqs := someOf(r, keysInOrder, 5), someOf(r, numbers, 4)
		before, l, behind := drawn(r, keys, seqs), drawn(r, keys, seqs), drawn(r, keys, seqs)
		all := slices.Concat(before, l, behind)
		merged := slices.Concat(before, lists{merge.Merge(true, l...)}, behind)
		same(t, "Newest, some merged first", all, merge.Newest(merged...), merge.Newest(all...))
		same(t, "Live, some merged first", all, merge.Live(merged...), merge.Live(all...))
		if len(slices.Concat(merged...)) < len(slices.Concat(all...)) {
			changed++
		}
	}
	if changed < 5000 {
		t.Errorf("only %d times there was something to merge", changed)
	}
}

func TestMergingWithNewerOnesBehind(t *testing.T) {
	r := rand.New(rand.NewPCG(9, 10))
	omitted := 0
	for range 20000 {
		keys := someOf(r, keysInOrder, 5)
		l := drawn(r, keys, someOf(r, numbers, 4))
		newer := newerThan(r, l, keys)
		all := slices.Concat(l, newer)
		kept, rest := merge.Merge(true, l...), merge.Merge(false, l...)
		same(t, "Newest, deletions kept first", all, merge.Merge(true, slices.Concat(lists{kept}, newer)...), merge.Newest(all...))
		// Nothing older is elsewhere: the deletions are not needed.
		same(t, "Live, deletions kept first", all, merge.Merge(false, slices.Concat(lists{kept}, newer)...), merge.Live(all...))
		same(t, "Live, deletions omitted first", all, merge.Merge(false, slices.Concat(lists{rest}, newer)...), merge.Live(all...))
		if len(rest) < len(kept) {
			omitted++
		}
	}
	if omitted < 5000 {
		t.Errorf("only %d times there were deletions to omit", omitted)
	}
}

// Merging step by step, each time with the next newer lists, ends where merging all of them at once does.
func TestMergingAgainAndAgain(t *testing.T) {
	r := rand.New(rand.NewPCG(11, 12))
	for range 3000 {
		keys := someOf(r, keysInOrder, 6)
		all := drawn(r, keys, someOf(r, numbers, 3))
		kept, rest := merge.Merge(true, all...), merge.Merge(false, all...)
		for range 4 {
			newer := newerThan(r, all, keys)
			all = slices.Concat(all, newer)
			kept = merge.Merge(true, slices.Concat(lists{kept}, newer)...)
			rest = merge.Merge(false, slices.Concat(lists{rest}, newer)...)
		}
		same(t, "Newest, step by step", all, kept, merge.Newest(all...))
		same(t, "Live, step by step", all, rest, merge.Live(all...))
	}
}

func TestMergingAMergeOnceMore(t *testing.T) {
	r := rand.New(rand.NewPCG(13, 14))
	for range 5000 {
		l := drawn(r, someOf(r, keysInOrder, 6), someOf(r, numbers, 5))
		newest, live := merge.Newest(l...), merge.Live(l...)
		check(t, lists{newest}, newest, live)
		check(t, lists{live}, live, live)
		check(t, lists{live, newest, {}, live}, newest, live)
	}
}

// Over older records, a merge with its deletions hides what the lists that it was made of hide; without them, older ones reappear.
func TestDeletionsOverOlderRecords(t *testing.T) {
	r := rand.New(rand.NewPCG(15, 16))
	reappeared, stayed := 0, 0
	for range 20000 {
		keys := someOf(r, keysInOrder, 5)
		older := drawn(r, keys, []uint64{0, 1, 2})
		l := drawn(r, keys, []uint64{3, 4, math.MaxUint64})
		all := slices.Concat(older, l)
		want := merge.Live(all...)
		kept, rest := merge.Merge(true, l...), merge.Merge(false, l...)
		same(t, "over older ones, deletions kept", all, merge.Live(slices.Concat(older, lists{kept})...), want)
		same(t, "over older ones behind them, deletions kept", all, merge.Live(slices.Concat(lists{kept}, older)...), want)
		if got, needed := merge.Live(slices.Concat(older, lists{rest})...), hides(kept, merge.Live(older...)); slices.Equal(got, want) == needed {
			t.Fatalf("%s over %s, deletions omitted: %s; one is needed: %t", tell(l), tell(older), tell(got), needed)
		} else if needed {
			reappeared++
		} else {
			stayed++
		}
	}
	if reappeared < 3000 || stayed < 3000 {
		t.Errorf("omitted deletions were needed %d times, and not %d times", reappeared, stayed)
	}
}

// hides tells whether a deletion of merged is one of a key that is live in older.
func hides(merged, older recs) bool {
	return slices.ContainsFunc(merged, func(m api.Rec) bool {
		return m.Gone && slices.ContainsFunc(older, func(o api.Rec) bool { return o.Key == m.Key })
	})
}

func TestADeletionOverAnOlderRecord(t *testing.T) {
	older, l := recs{put(1, "a", "x"), put(2, "b", "y")}, recs{put(3, "a", "z"), del(4, "a")}
	same(t, "deletions kept", lists{older, l}, merge.Live(older, merge.Merge(true, l)), recs{older[1]})
	same(t, "deletions omitted", lists{older, l}, merge.Live(older, merge.Merge(false, l)), older)
	same(t, "with the older ones", lists{older, l}, merge.Merge(false, older, l), recs{older[1]})
}

// What is cut into batches in between is merged as it would be without.
func TestMergingBatches(t *testing.T) {
	r := rand.New(rand.NewPCG(17, 18))
	for range 500 {
		var l recs
		for i := range r.IntN(120) {
			l = append(l, api.Rec{Seq: r.Uint64N(4), Key: fmt.Sprint(r.IntN(60)), Value: fmt.Sprint(i), Gone: r.IntN(3) == 0})
		}
		newest, live := merge.Newest(l), merge.Live(l)
		check(t, merge.Batches(l), newest, live)
		check(t, merge.Batches(newest), newest, live)
		check(t, merge.Batches(live), live, live)
	}
}

// R3 and R4

func TestResultsBelongToTheCaller(t *testing.T) {
	l := lists{{put(1, "a", "x"), put(2, "b", "y")}, {put(3, "c", "z"), del(4, "d")}}
	given := roomy(l)
	for _, call := range []func(l ...[]api.Rec) []api.Rec{merge.Newest, merge.Live} {
		want := slices.Clone(call(l...))
		got := call(given...)
		got = append(got, put(5, "e", "spoilt"), put(6, "f", "spoilt"))
		for i := range got {
			got[i] = put(9, "spoilt", "spoilt")
		}
		untouched(t, "writing to the result", given, l)
		same(t, "behind a result that was spoilt", l, call(given...), want)
	}
	// One list that is its own Newest is not handed back.
	list := recs{put(1, "a", "x"), put(2, "b", "y")}
	merge.Newest(list)[0].Value = "spoilt"
	merge.Live(list)[1].Value = "spoilt"
	same(t, "a list that was merged", nil, list, recs{put(1, "a", "x"), put(2, "b", "y")})
}

func TestListsCanChangeBehindTheCall(t *testing.T) {
	l := lists{{put(1, "a", "x")}, {put(2, "b", "y")}}
	newest, live := merge.Newest(l...), merge.Live(l...)
	batches := merge.Batches(l[0])
	l[0][0], l[1] = put(8, "other", "other"), nil
	want := recs{put(1, "a", "x"), put(2, "b", "y")}
	same(t, "Newest", nil, newest, want)
	same(t, "Live", nil, live, want)
	same(t, "a batch", nil, batches[0], want[:1])
}

func TestBatchesBelongToTheCaller(t *testing.T) {
	l := someRecords(40)
	given := roomyList(l)
	batches := merge.Batches(given)
	for i := range batches {
		// Each of them is longer then: those that are left must not see it.
		longer := append(batches[i], put(9, "spoilt", "spoilt"))
		for j := range longer {
			longer[j] = put(9, "spoilt", "spoilt")
		}
		for j := range batches[i] {
			batches[i][j] = put(9, "spoilt", "spoilt")
		}
		for next := i + 1; next < len(batches); next++ {
			same(t, fmt.Sprintf("batch %d behind a spoilt batch %d", next, i), lists{l}, batches[next], l[16*next:min(16*next+16, 40)])
		}
		untouchedList(t, "writing to a batch", given, l)
	}
}

func TestTheSameCallsHaveTheSameResults(t *testing.T) {
	r := rand.New(rand.NewPCG(19, 20))
	var l lists
	for range 30 {
		l = append(l, drawn(r, keysInOrder, numbers)...)
	}
	newest, live, batches := merge.Newest(l...), merge.Live(l...), merge.Batches(l[0])
	for range 50 {
		check(t, l, newest, live)
		if again := merge.Batches(l[0]); !slices.EqualFunc(again, batches, slices.Equal[recs]) {
			t.Fatalf("batches are %s, and were %s", tell(again), tell(batches))
		}
	}
	check(t, l, plainNewest(l), plainLive(l))
}

func FuzzMerges(f *testing.F) {
	f.Add("a\x01b\x02a\x83", uint8(3), true)
	f.Add("a\x01a\x81\xff\x00\xff\x00", uint8(1), false)
	f.Add(strings.Repeat("a\x05b\x05a\x85", 12), uint8(16), true)
	f.Fuzz(func(t *testing.T, script string, length uint8, greatest bool) {
		var l recs
		for i := 0; i+1 < min(len(script), 400); i += 2 {
			// Keys begin each other, the numbers are few, and with greatest they are the greatest ones.
			r := api.Rec{Seq: uint64(script[i+1] & 15), Key: strings.Repeat(script[i:i+1], int(script[i+1]>>4&3)), Value: fmt.Sprint(i), Gone: script[i+1] >= 128}
			if greatest {
				r.Seq = math.MaxUint64 - r.Seq
			}
			l = append(l, r)
		}
		parts := slices.Collect(slices.Chunk(l, 1+int(length)))
		checkByWords(t, parts)
		cut := len(parts) / 2
		same(t, "the first half merged first", parts, merge.Newest(slices.Concat(lists{merge.Newest(parts[:cut]...)}, parts[cut:])...), plainNewest(parts))
		same(t, "all batches", parts, slices.Concat(merge.Batches(l)...), l)
	})
}
