package hint_test

import (
	"encoding/binary"
	"hash/crc32"
	"math"
	"math/bits"
	"slices"
	"strings"
	"testing"

	"thwart/api"
	"thwart/frame"
	"thwart/hint"
)

// plainNumber encodes a number as chapter 1 has it.
func plainNumber(n uint64) string {
	return string(binary.AppendUvarint(nil, n))
}

// plainText puts the length of s ahead of it.
func plainText(s string) string {
	return plainNumber(uint64(len(s))) + s
}

// plainSeal puts the checksum of s ahead of it, as chapter 2 has it.
func plainSeal(s string) string {
	sum := crc32.Checksum([]byte(s), crc32.MakeTable(crc32.Castagnoli))
	return string(binary.LittleEndian.AppendUint32(nil, sum)) + s
}

// plainRecord encodes a record as chapter 3 has it, also one that is not valid.
func plainRecord(r api.Rec) string {
	if r.Gone {
		return plainNumber(2*r.Seq+1) + plainText(r.Key)
	}
	return plainNumber(2*r.Seq) + plainText(r.Key) + plainText(r.Value)
}

// plainRecords is the encodings one behind the other.
func plainRecords(l []api.Rec) string {
	b := ""
	for _, r := range l {
		b += plainRecord(r)
	}
	return b
}

// plainBatch encodes a batch as chapter 4 has it.
func plainBatch(l []api.Rec) string {
	return plainText(plainSeal(plainRecords(l)))
}

// joined is batches one behind the other.
func joined(batches [][]api.Rec) string {
	b := ""
	for _, l := range batches {
		b += plainBatch(l)
	}
	return b
}

// within tells whether n is one of least to most.
func within(n, least, most int) bool {
	return n >= least && n <= most
}

// plainValid follows the chapter's definition of a valid entry.
func plainValid(e hint.Entry) bool {
	return within(len(e.Key), 1, 40) && within(e.Off, 0, 1<<20) && within(e.Len, 1, 400) && e.Seq >= 1 && e.Seq <= 1<<40
}

// plainEntry follows the chapter's definition of an entry's encoding, also for entries that are not valid.
func plainEntry(e hint.Entry) string {
	size := 2 * uint64(e.Len)
	if e.Gone {
		size++
	}
	return plainText(e.Key) + plainNumber(uint64(e.Off)) + plainNumber(size) + plainNumber(e.Seq)
}

// plainContents is what stands behind the checksum of an index, with any number of entries ahead.
func plainContents(count uint64, l []hint.Entry) string {
	var b strings.Builder
	b.WriteString(plainNumber(count))
	for _, e := range l {
		b.WriteString(plainEntry(e))
	}
	return b.String()
}

// plainBytes is an index, also of entries that are not valid.
func plainBytes(l []hint.Entry) string {
	return plainSeal(plainContents(uint64(len(l)), l))
}

// taker takes apart bytes; none of what it returns is right once it is wrong.
type taker struct {
	b     string
	wrong bool
}

// number is the next one, if it has the least bytes that it can have.
func (k *taker) number() uint64 {
	n, size := binary.Uvarint([]byte(k.b[:min(len(k.b), 10)]))
	if size <= 0 || size != max(1, (bits.Len64(n)+6)/7) {
		k.wrong, size = true, 0
	}
	k.b = k.b[size:]
	return n
}

// text is the next string with its length ahead.
func (k *taker) text() string {
	n := k.number()
	if n > uint64(len(k.b)) {
		k.wrong = true
		return ""
	}
	s := k.b[:n]
	k.b = k.b[n:]
	return s
}

// plainRead follows the words of P5.1.
func plainRead(b string) ([]hint.Entry, api.Errno) {
	if len(b) < 4 || plainSeal(b[4:]) != b {
		return nil, api.ErrSum
	}
	k := taker{b: b[4:]}
	count := k.number()
	var l []hint.Entry
	for k.b != "" && !k.wrong {
		key, off, size, seq := k.text(), k.number(), k.number(), k.number()
		if k.wrong || off > 1<<20 || size > 801 {
			return nil, api.ErrForm
		}
		e := hint.Entry{Key: key, Off: int(off), Len: int(size >> 1), Seq: seq, Gone: size&1 != 0}
		if !plainValid(e) {
			return nil, api.ErrForm
		}
		l = append(l, e)
	}
	if k.wrong || count != uint64(len(l)) || len(l) > 2000 {
		return nil, api.ErrForm
	}
	return l, api.OK
}

// plainOf is the index of batches that stand one behind the other from the first byte on.
func plainOf(batches [][]api.Rec) []hint.Entry {
	var l []hint.Entry
	end := 0
	for _, batch := range batches {
		end += len(plainBatch(batch))
		off := end
		for _, r := range slices.Backward(batch) {
			off -= len(plainRecord(r))
			l = append(l, hint.Entry{Key: r.Key, Off: off, Len: len(plainRecord(r)), Seq: r.Seq, Gone: r.Gone})
		}
		slices.Reverse(l[len(l)-len(batch):])
	}
	return l
}

// plainAt follows the words of P5.3.
func plainAt(b string, e hint.Entry) (api.Rec, api.Errno) {
	if !plainValid(e) || e.Len > len(b) || e.Off > len(b)-e.Len {
		return api.Rec{}, api.ErrArg
	}
	place := b[e.Off:][:e.Len]
	k := taker{b: place}
	n := k.number()
	r := api.Rec{Seq: n >> 1, Gone: n&1 != 0, Key: k.text()}
	if !r.Gone {
		r.Value = k.text()
	}
	if k.wrong || len(r.Value) > 300 || plainRecord(r) != place || r.Key != e.Key || r.Seq != e.Seq || r.Gone != e.Gone {
		return api.Rec{}, api.ErrForm
	}
	return r, api.OK
}

func checkBytes(t *testing.T, l []hint.Entry) {
	t.Helper()
	b, err := hint.Bytes(l)
	want, wantErr := plainBytes(l), api.OK
	if len(l) > 2000 || !slices.Equal(slices.DeleteFunc(slices.Clone(l), func(e hint.Entry) bool { return !plainValid(e) }), l) {
		want, wantErr = "", api.ErrArg
	}
	if b != want || err != wantErr {
		t.Errorf("Bytes of %d entries: %x, %d; want %x, %d", len(l), b, err, want, wantErr)
	}
}

func checkRead(t *testing.T, b string) {
	t.Helper()
	l, err := hint.Read(b)
	want, wantErr := plainRead(b)
	if !slices.Equal(l, want) || err != wantErr {
		t.Errorf("Read(%x) = %v, %d; want %v, %d", b, l, err, want, wantErr)
	}
}

// checkNoIndex tells that Read refuses b with that error.
func checkNoIndex(t *testing.T, name, b string, want api.Errno) {
	t.Helper()
	if l, err := hint.Read(b); len(l) != 0 || err != want {
		t.Errorf("%s: Read(%x) = %v, %d; want error %d", name, b, l, err, want)
	}
	if _, err := plainRead(b); err != want {
		t.Errorf("%s: plainRead errs: %d", name, err)
	}
}

func checkOf(t *testing.T, name string, batches [][]api.Rec, behind string) {
	t.Helper()
	b := joined(batches)
	l, n := hint.Of(b + behind)
	if want := plainOf(batches); !slices.Equal(l, want) || n != len(b) {
		t.Errorf("%s: %v, %d; want %v, %d", name, l, n, want, len(b))
	}
}

func checkAt(t *testing.T, b string, e hint.Entry) {
	t.Helper()
	r, err := hint.At(b, e)
	want, wantErr := plainAt(b, e)
	if r != want || err != wantErr {
		t.Errorf("At of %d bytes, %+v = %+v, %d; want %+v, %d", len(b), e, r, err, want, wantErr)
	}
}

// checkNoRecord tells that At refuses e with that error.
func checkNoRecord(t *testing.T, name, b string, e hint.Entry, want api.Errno) {
	t.Helper()
	if r, err := hint.At(b, e); r != (api.Rec{}) || err != want {
		t.Errorf("%s: At(%x, %+v) = %+v, %d; want error %d", name, b[:min(len(b), 100)], e, r, err, want)
	}
	if _, err := plainAt(b, e); err != want {
		t.Errorf("%s: plainAt errs: %d", name, err)
	}
}

// text is size bytes of many values.
func text(size int) string {
	b := make([]byte, size)
	for i := range b {
		b[i] = byte(i*37 + size)
	}
	return string(b)
}

// entries are valid, of many kinds, each another one.
func entries(size int) []hint.Entry {
	l := make([]hint.Entry, size)
	for i := range l {
		l[i] = hint.Entry{Key: text(i%40 + 1), Off: i * 521 % (1<<20 + 1), Len: i%400 + 1, Seq: uint64(i)*123456789%(1<<40) + 1, Gone: i%3 == 2}
	}
	return l
}

// one is an entry that is valid, with change applied to it.
func one(change func(*hint.Entry)) hint.Entry {
	e := hint.Entry{Key: "k", Off: 5, Len: 5, Seq: 3}
	change(&e)
	return e
}

// edges are entries with one field at its least or greatest.
func edges() []hint.Entry {
	return []hint.Entry{
		one(func(e *hint.Entry) { e.Key = "\x00" }),
		one(func(e *hint.Entry) { e.Key = text(40) }),
		one(func(e *hint.Entry) { e.Off = 0 }),
		one(func(e *hint.Entry) { e.Off = api.MostFile }),
		one(func(e *hint.Entry) { e.Len = 1 }),
		one(func(e *hint.Entry) { e.Len = 400 }),
		one(func(e *hint.Entry) { e.Len, e.Gone = 400, true }),
		one(func(e *hint.Entry) { e.Seq = 1 }),
		one(func(e *hint.Entry) { e.Seq = api.MostSeq }),
		{Key: "\x00", Off: 0, Len: 1, Seq: 1},
		{Key: text(40), Off: api.MostFile, Len: 400, Seq: api.MostSeq, Gone: true},
	}
}

// wrong are entries that are not valid by one field alone.
func wrong() []hint.Entry {
	return []hint.Entry{
		one(func(e *hint.Entry) { e.Key = "" }),
		one(func(e *hint.Entry) { e.Key = text(41) }),
		one(func(e *hint.Entry) { e.Key = text(1000) }),
		one(func(e *hint.Entry) { e.Key = strings.Repeat("é", 21) }),
		one(func(e *hint.Entry) { e.Off = -1 }),
		one(func(e *hint.Entry) { e.Off = math.MinInt }),
		one(func(e *hint.Entry) { e.Off = api.MostFile + 1 }),
		one(func(e *hint.Entry) { e.Off = math.MaxInt }),
		one(func(e *hint.Entry) { e.Off = 1<<32 + 5 }),
		one(func(e *hint.Entry) { e.Len = 0 }),
		one(func(e *hint.Entry) { e.Len, e.Gone = 0, true }),
		one(func(e *hint.Entry) { e.Len = -1 }),
		one(func(e *hint.Entry) { e.Len = -5 }),
		one(func(e *hint.Entry) { e.Len = math.MinInt }),
		one(func(e *hint.Entry) { e.Len = 401 }),
		one(func(e *hint.Entry) { e.Len = 1<<32 + 5 }),
		one(func(e *hint.Entry) { e.Len = math.MinInt + 5 }), // doubled it runs over to 10
		one(func(e *hint.Entry) { e.Len = math.MaxInt }),
		one(func(e *hint.Entry) { e.Seq = 0 }),
		one(func(e *hint.Entry) { e.Seq = api.MostSeq + 1 }),
		one(func(e *hint.Entry) { e.Seq = math.MaxUint64 }),
		{},
	}
}

// many are valid records of many kinds, each another one.
func many(size int) []api.Rec {
	l := make([]api.Rec, size)
	for i := range l {
		l[i] = api.Rec{Seq: uint64(i)*97 + 1, Key: text(i%40 + 1), Gone: i%3 == 2}
		if !l[i].Gone {
			l[i].Value = text(i * 13 % 301)
		}
	}
	return l
}

// batches are of every size, of the least and the greatest records, and of contents around a length of 128.
func batches() [][]api.Rec {
	greatest := api.Rec{Seq: api.MostSeq, Key: text(40), Value: text(300)}
	l := [][]api.Rec{
		{{Seq: 3, Key: "k", Value: "v"}},
		{{Seq: 3, Key: "k", Value: "v"}, {Seq: 4, Key: "kk", Gone: true}},
		{{Seq: 1, Key: "\x00", Gone: true}},
		{{Seq: 1, Key: "\x00"}},
		{{Seq: 9, Key: "k", Value: "new"}, {Seq: 9, Key: "k", Value: "new"}, {Seq: 8, Key: "k", Gone: true}},
		{greatest},
		slices.Repeat([]api.Rec{greatest}, 16),
		slices.Repeat([]api.Rec{{Seq: api.MostSeq, Key: text(40), Gone: true}}, 16),
	}
	for size := 1; size <= 16; size++ {
		l = append(l, many(size))
	}
	for value := 114; value <= 130; value++ {
		l = append(l, []api.Rec{{Seq: 1, Key: "k", Value: text(value)}, {Seq: 2, Key: "k", Gone: true}})
	}
	return l
}

// P5.1

func TestBytesExamples(t *testing.T) {
	for _, c := range []struct {
		l        []hint.Entry
		contents string
	}{
		{nil, "\x00"},
		{[]hint.Entry{}, "\x00"},
		{[]hint.Entry{{Key: "k", Off: 5, Len: 5, Seq: 3}}, "\x01\x01k\x05\x0a\x03"},
		{[]hint.Entry{{Key: "k", Off: 5, Len: 5, Seq: 3, Gone: true}}, "\x01\x01k\x05\x0b\x03"},
		{[]hint.Entry{{Key: "\x00", Off: 0, Len: 1, Seq: 1}}, "\x01\x01\x00\x00\x02\x01"},
		{[]hint.Entry{{Key: "ab", Off: 300, Len: 150, Seq: 128}}, "\x01\x02ab\xac\x02\xac\x02\x80\x01"},
		{[]hint.Entry{{Key: "é", Off: api.MostFile, Len: 400, Seq: api.MostSeq, Gone: true}}, "\x01\x02\xc3\xa9\x80\x80\x40\xa1\x06\x80\x80\x80\x80\x80\x20"},
		{[]hint.Entry{{Key: "b", Off: 9, Len: 4, Seq: 2, Gone: true}, {Key: "a", Off: 5, Len: 4, Seq: 1}}, "\x02\x01b\x09\x09\x02\x01a\x05\x08\x01"},
	} {
		b, err := hint.Bytes(c.l)
		if b != plainSeal(c.contents) || err != api.OK {
			t.Errorf("Bytes(%+v) = %x, %d; want %x", c.l, b, err, plainSeal(c.contents))
		}
		l, err := hint.Read(plainSeal(c.contents))
		if !slices.Equal(l, c.l) || err != api.OK {
			t.Errorf("Read of %x = %+v, %d; want %+v", c.contents, l, err, c.l)
		}
	}
}

func TestBytesOfManySizes(t *testing.T) {
	for _, size := range []int{0, 1, 2, 3, 127, 128, 129, 1999, 2000} {
		checkBytes(t, entries(size))
		if _, err := hint.Bytes(entries(size)); err != api.OK {
			t.Errorf("%d entries: %d", size, err)
		}
	}
	for _, size := range []int{2001, 2002, 4000, 2000 + 1<<16} {
		if b, err := hint.Bytes(entries(size)); b != "" || err != api.ErrArg {
			t.Errorf("%d entries: %d bytes, %d", size, len(b), err)
		}
	}
}

func TestBytesOfEntriesAtTheEdges(t *testing.T) {
	for _, e := range edges() {
		if b, err := hint.Bytes([]hint.Entry{e}); b != plainBytes([]hint.Entry{e}) || err != api.OK {
			t.Errorf("Bytes of %+v = %x, %d; want %x", e, b, err, plainBytes([]hint.Entry{e}))
		}
	}
	checkBytes(t, edges())
	checkBytes(t, slices.Repeat([]hint.Entry{edges()[10]}, 2000))
}

func TestBytesWithOneEntryThatIsNotValid(t *testing.T) {
	for i, bad := range wrong() {
		for _, size := range []int{0, 1, 2, 50, 1999, 2000} {
			for _, at := range []int{0, size / 2, size} {
				l := slices.Insert(entries(size), at, bad)
				if b, err := hint.Bytes(l); b != "" || err != api.ErrArg {
					t.Errorf("wrong entry %d at place %d of %d: %x, %d", i, at, len(l), b, err)
				}
			}
		}
	}
}

// crossed is every entry of which each field is at one of its edges, at one beyond, or between.
func crossed() []hint.Entry {
	l := []hint.Entry{}
	for _, key := range []int{0, 1, 2, 40, 41, 128} {
		for _, off := range []int{-1, 0, 1, 127, 128, 1<<20 - 1, 1 << 20, 1<<20 + 1} {
			for _, size := range []int{-1, 0, 1, 63, 64, 399, 400, 401} {
				for _, seq := range []uint64{0, 1, 2, 127, 128, 1<<40 - 1, 1 << 40, 1<<40 + 1} {
					l = append(l, hint.Entry{Key: text(key), Off: off, Len: size, Seq: seq}, hint.Entry{Key: text(key), Off: off, Len: size, Seq: seq, Gone: true})
				}
			}
		}
	}
	return l
}

func TestBytesAndReadOfAllEdgesTogether(t *testing.T) {
	for _, e := range crossed() {
		l := []hint.Entry{e}
		checkBytes(t, l)
		checkRead(t, plainBytes(l))
		if got, err := hint.Read(plainBytes(l)); plainValid(e) != (err == api.OK) || plainValid(e) && got[0] != e {
			t.Errorf("Read of the bytes of %+v: %v, %d", e, got, err)
		}
	}
}

func TestBytesDoesNotChangeItsArguments(t *testing.T) {
	l := append(entries(100), wrong()[0])
	before := slices.Clone(l)
	hint.Bytes(l[:100])
	hint.Bytes(l)
	if !slices.Equal(l, before) {
		t.Error("the entries are changed")
	}
}

func TestReadWithoutARightChecksum(t *testing.T) {
	contents := plainContents(3, entries(3))
	sealed := plainSeal(contents)
	reversed := []byte(sealed[:4])
	slices.Reverse(reversed)
	for _, c := range []struct{ name, b string }{
		{"nothing", ""},
		{"one byte", "\x00"},
		{"two bytes", "\x00\x00"},
		{"three bytes", "abc"},
		{"checksum without its last byte", plainSeal("\x00")[:3]},
		{"checksum alone", sealed[:4]},
		{"four bytes that are no checksum", "\x00\x00\x00\x01"},
		{"entries without a checksum", contents},
		{"checksum of no entries", plainSeal("\x00")[:4] + contents},
		{"checksum of other entries", plainBytes(entries(2))[:4] + contents},
		{"checksum behind", contents + sealed[:4]},
		{"checksum with the highest byte first", string(reversed) + contents},
		{"zero for a checksum", "\x00\x00\x00\x00" + contents},
		{"other checksum of 32 bits", string(binary.LittleEndian.AppendUint32(nil, crc32.ChecksumIEEE([]byte(contents)))) + contents},
		{"a byte behind", sealed + "\x00"},
		{"a byte ahead", "\x00" + sealed},
		{"wrong checksum of what is malformed", "\x01\x02\x03\x04\x80\x00"},
		{"wrong checksum of too many entries", "\x01\x02\x03\x04" + plainContents(2001, entries(2001))},
	} {
		checkNoIndex(t, c.name, c.b, api.ErrSum)
	}
}

func TestReadWithEveryBitTurned(t *testing.T) {
	for _, size := range []int{0, 1, 2, 30} {
		b := plainBytes(entries(size))
		for bit := range 8 * len(b) {
			turned := []byte(b)
			turned[bit/8] ^= 1 << (bit % 8)
			checkNoIndex(t, "bit turned", string(turned), api.ErrSum)
			if bit >= 32 {
				checkRead(t, plainSeal(string(turned[4:]))) // another index, or none
			}
		}
	}
}

func TestReadOfARightChecksumAndOtherContents(t *testing.T) {
	ten := strings.Repeat("\x80", 10)
	for _, c := range []struct{ name, contents string }{
		{"nothing", ""},
		{"number of entries without an end", "\x80"},
		{"number of entries of ten bytes without an end", ten},
		{"number of entries with a needless byte", "\x80\x00"},
		{"number of entries with a needless byte, and an entry", "\x81\x00\x01k\x05\x0a\x03"},
		{"entry without its number", "\x01k\x05\x0a\x03"},
		{"no entry, but one said", "\x01"},
		{"no entry, but 2000 said", plainNumber(2000)},
		{"no entry, but 2001 said", plainNumber(2001)},
		{"no entry, but 2^32 said", plainNumber(1 << 32)},
		{"no entry, but 2^63 said", plainNumber(1 << 63)},
		{"no entry, but 2^64 - 1 said", plainNumber(math.MaxUint64)},
		{"number of entries of more than 64 bits", strings.Repeat("\xff", 9) + "\x02"},
		{"an entry, but none said", "\x00\x01k\x05\x0a\x03"},
		{"an entry, but two said", "\x02\x01k\x05\x0a\x03"},
		{"an entry, but 2^32 + 1 said", plainNumber(1<<32+1) + "\x01k\x05\x0a\x03"},
		{"two entries, but one said", "\x01\x01k\x05\x0a\x03\x01k\x05\x0a\x03"},
		{"two entries, but three said", plainContents(3, entries(2))},
		{"2001 entries", plainContents(2001, entries(2001))},
		{"2001 entries, but 2000 said", plainContents(2000, entries(2001))},
		{"2000 entries, but 2001 said", plainContents(2001, entries(2000))},
		{"2000 entries, but 1999 said", plainContents(1999, entries(2000))},
		{"no entries and a zero byte", "\x00\x00"},
		{"no entries and a one", "\x00\x01"},
		{"an entry and a zero byte", "\x01\x01k\x05\x0a\x03\x00"},
		{"an entry and a byte without an end", "\x01\x01k\x05\x0a\x03\x80"},
		{"an entry and the same index", "\x01\x01k\x05\x0a\x03\x01\x01k\x05\x0a\x03"},
		{"an index within an index", plainSeal("\x01\x01k\x05\x0a\x03")},

		{"key's length without an end", "\x01\x80"},
		{"key's length with a needless byte", "\x01\x81\x00k\x05\x0a\x03"},
		{"key's length of ten bytes without an end", "\x01" + ten + "k\x05\x0a\x03"},
		{"key's length 2^63", "\x01" + plainNumber(1<<63) + "k\x05\x0a\x03"},
		{"key's length 2^64 - 1", "\x01" + plainNumber(math.MaxUint64) + "k\x05\x0a\x03"},
		{"key's length 2^64 - 5", "\x01" + plainNumber(math.MaxUint64-4) + "k\x05\x0a\x03"},
		{"key of too few bytes", "\x01\x05k\x05\x0a\x03"},
		{"key of no bytes", "\x01\x00\x05\x0a\x03"},
		{"key of one byte too many", "\x01" + plainText(text(41)) + "\x05\x0a\x03"},
		{"key of one byte too many, and no more", "\x01" + plainText(text(41))},

		{"no Off", "\x01\x01k"},
		{"Off without an end", "\x01\x01k\x85"},
		{"Off with a needless byte", "\x01\x01k\x85\x00\x0a\x03"},
		{"Off of ten bytes without an end", "\x01\x01k" + ten + "\x0a\x03"},
		{"Off of more than 64 bits", "\x01\x01k" + strings.Repeat("\xff", 9) + "\x02\x0a\x03"},
		{"Off of one too many", "\x01\x01k" + plainNumber(1<<20+1) + "\x0a\x03"},
		{"Off 2^32", "\x01\x01k" + plainNumber(1<<32) + "\x0a\x03"},
		{"Off 2^32 + 5", "\x01\x01k" + plainNumber(1<<32+5) + "\x0a\x03"},
		{"Off 2^63 - 1", "\x01\x01k" + plainNumber(math.MaxInt64) + "\x0a\x03"},
		{"Off 2^63", "\x01\x01k" + plainNumber(1<<63) + "\x0a\x03"},
		{"Off 2^64 - 1", "\x01\x01k" + plainNumber(math.MaxUint64) + "\x0a\x03"},

		{"no Len", "\x01\x01k\x05"},
		{"Len without an end", "\x01\x01k\x05\x8a"},
		{"Len with a needless byte", "\x01\x01k\x05\x8a\x00\x03"},
		{"Len of ten bytes without an end", "\x01\x01k\x05" + ten + "\x03"},
		{"Len 0", "\x01\x01k\x05\x00\x03"},
		{"Len 0, gone", "\x01\x01k\x05\x01\x03"},
		{"Len of one too many", "\x01\x01k\x05" + plainNumber(802) + "\x03"},
		{"Len of one too many, gone", "\x01\x01k\x05" + plainNumber(803) + "\x03"},
		{"Len 2^31 + 5", "\x01\x01k\x05" + plainNumber(1<<32+10) + "\x03"},
		{"Len 2^32 + 5", "\x01\x01k\x05" + plainNumber(1<<33+10) + "\x03"},
		{"Len 2^62 + 5", "\x01\x01k\x05" + plainNumber(1<<63+10) + "\x03"},
		{"Len 2^63 - 1, gone", "\x01\x01k\x05" + plainNumber(math.MaxUint64) + "\x03"},

		{"no Seq", "\x01\x01k\x05\x0a"},
		{"Seq without an end", "\x01\x01k\x05\x0a\x83"},
		{"Seq with a needless byte", "\x01\x01k\x05\x0a\x83\x00"},
		{"Seq of ten bytes without an end", "\x01\x01k\x05\x0a" + ten},
		{"Seq 0", "\x01\x01k\x05\x0a\x00"},
		{"Seq of one too many", "\x01\x01k\x05\x0a" + plainNumber(1<<40+1)},
		{"Seq 2^63", "\x01\x01k\x05\x0a" + plainNumber(1<<63)},
		{"Seq 2^63 + 3", "\x01\x01k\x05\x0a" + plainNumber(1<<63+3)},
		{"Seq 2^64 - 1", "\x01\x01k\x05\x0a" + plainNumber(math.MaxUint64)},
		{"Seq of more than 64 bits", "\x01\x01k\x05\x0a" + strings.Repeat("\xff", 9) + "\x02"},

		{"an entry and a malformed one", "\x02\x01k\x05\x0a\x03\x01k\x05\x8a\x00\x03"},
		{"a malformed entry and another one", "\x02\x01k\x05\x8a\x00\x03\x01k\x05\x0a\x03"},
		{"an entry and one that is not valid", "\x02\x01k\x05\x0a\x03\x01k\x05\x0a\x00"},
		{"one that is not valid and an entry", "\x02\x01k\x05\x0a\x00\x01k\x05\x0a\x03"},
	} {
		checkNoIndex(t, c.name, plainSeal(c.contents), api.ErrForm)
	}
}

func TestReadWithOneEntryThatIsNotValid(t *testing.T) {
	for _, bad := range wrong() {
		if bad.Len == math.MinInt+5 {
			continue // its doubled length is another entry's
		}
		for _, size := range []int{0, 1, 2, 50} {
			for _, at := range []int{0, size / 2, size} {
				checkNoIndex(t, "not valid", plainBytes(slices.Insert(entries(size), at, bad)), api.ErrForm)
			}
		}
	}
}

func TestReadOfShortContents(t *testing.T) {
	for i := range 256 {
		checkRead(t, plainSeal(string([]byte{byte(i)})))
		for j := range 256 {
			b := string([]byte{byte(i), byte(j)})
			checkRead(t, b)
			checkRead(t, plainSeal(b))
			checkRead(t, plainSeal(b+"k\x05\x0a\x03"))
			checkRead(t, plainSeal("\x01"+b+"\x05\x0a\x03"))
			checkRead(t, plainSeal("\x01\x01k"+b+"\x03"))
			checkRead(t, plainSeal("\x01\x01k\x05"+b+"\x03"))
			checkRead(t, plainSeal("\x01\x01k\x05\x0a"+b))
		}
	}
}

func TestNoBeginningOfAnIndexIsRead(t *testing.T) {
	for _, size := range []int{0, 1, 2, 3, 60} {
		b, err := hint.Bytes(entries(size))
		if err != api.OK {
			t.Fatal(err)
		}
		for cut := range len(b) {
			checkNoIndex(t, "beginning", b[:cut], api.ErrSum)
			if cut >= 4 {
				checkNoIndex(t, "beginning with a right checksum", plainSeal(b[4:cut]), api.ErrForm)
			}
		}
	}
}

func TestReadsShareNothing(t *testing.T) {
	b := plainBytes(entries(3))
	first, _ := hint.Read(b)
	first[0] = hint.Entry{}
	if second, err := hint.Read(b); !slices.Equal(second, entries(3)) || err != api.OK {
		t.Errorf("%v, %d", second, err)
	}
}

// P5.2

func TestOfABatchOfOneRecord(t *testing.T) {
	b := plainBatch([]api.Rec{{Seq: 3, Key: "k", Value: "v"}})
	want := []hint.Entry{{Key: "k", Off: 5, Len: 5, Seq: 3}}
	if l, n := hint.Of(b); !slices.Equal(l, want) || n != 10 {
		t.Errorf("%v, %d; want %v, 10", l, n, want)
	}
	b = plainBatch([]api.Rec{{Seq: 3, Key: "k", Gone: true}})
	want = []hint.Entry{{Key: "k", Off: 5, Len: 3, Seq: 3, Gone: true}}
	if l, n := hint.Of(b); !slices.Equal(l, want) || n != 8 {
		t.Errorf("%v, %d; want %v, 8", l, n, want)
	}
}

func TestOfABatchWithTwoBytesOfLength(t *testing.T) {
	for value, off := range map[int]int{119: 5, 120: 6} { // four bytes and the value are the record, four more the checksum
		b := plainBatch([]api.Rec{{Seq: 1, Key: "k", Value: text(value)}})
		want := []hint.Entry{{Key: "k", Off: off, Len: 4 + value, Seq: 1}}
		if l, n := hint.Of(b); !slices.Equal(l, want) || n != off+4+value {
			t.Errorf("%v, %d; want %v", l, n, want)
		}
	}
}

func TestOfNothing(t *testing.T) {
	for _, b := range []string{"", "\x00", "z", "\x80", "\x05abcde", plainText(plainSeal("")), "\x07\x01k", plainRecords(many(3)), strings.Repeat("\xff", 100)} {
		if l, n := hint.Of(b); len(l) != 0 || n != 0 {
			t.Errorf("Of(%x) = %v, %d", b, l, n)
		}
	}
}

func TestOfSeveralBatches(t *testing.T) {
	all := batches()
	for _, l := range all {
		checkOf(t, "one batch", [][]api.Rec{l}, "")
		checkOf(t, "the same batch again", [][]api.Rec{l, l, l}, "")
	}
	for size := range len(all) + 1 {
		checkOf(t, "several", all[:size], "")
	}
	slices.Reverse(all)
	checkOf(t, "in reverse", all, "")
}

func TestOfWithBytesBehindThatAreNoBatch(t *testing.T) {
	good := plainBatch(many(1))
	for _, size := range []int{0, 1, 2, 5} {
		for _, behind := range []string{
			"\x00", "z", "\x80", "\x80\x00", strings.Repeat("\x80", 10), "\x05", good[:1], good[:len(good)-1],
			plainText(""), plainText("abcdef"), plainText(plainSeal("")), plainText(plainSeal("\x02")), plainText(plainSeal("\x07\x00")),
			plainText(plainSeal(plainRecords(many(17)))), plainRecords(many(2)), strings.Repeat("\xff", 100),
		} {
			checkOf(t, "bytes behind", batches()[:size], behind)
			checkOf(t, "bytes behind, and a batch", batches()[:size], behind+good)
		}
	}
}

func TestOfBatchesTruncatedAtEveryPlace(t *testing.T) {
	l := [][]api.Rec{{{Seq: 3, Key: "k", Gone: true}}, many(4), {{Seq: 1, Key: "a", Value: "v"}, {Seq: 2, Key: "b", Gone: true}}, many(16)}
	all := joined(l)
	for cut := range len(all) {
		whole := 0
		for len(joined(l[:whole+1])) <= cut {
			whole++
		}
		done := len(joined(l[:whole]))
		checkOf(t, "truncated", l[:whole], all[done:cut])
	}
}

func TestOfMoreBytesThanASegmentHas(t *testing.T) {
	one := plainBatch(many(16))
	times := 2*api.MostFile/len(one) + 1
	l, n := hint.Of(strings.Repeat(one, times) + "z")
	if len(l) != 16*times || n != len(one)*times {
		t.Fatalf("%d entries, %d; want %d, %d", len(l), n, 16*times, len(one)*times)
	}
	first := plainOf([][]api.Rec{many(16)})
	for i, e := range l {
		want := first[i%16]
		want.Off += i / 16 * len(one)
		if e != want {
			t.Fatalf("entry %d: %+v, want %+v", i, e, want)
		}
	}
}

func TestOfsShareNothing(t *testing.T) {
	b := joined(batches()[:2])
	first, _ := hint.Of(b)
	first[0] = hint.Entry{}
	if second, _ := hint.Of(b); !slices.Equal(second, plainOf(batches()[:2])) {
		t.Errorf("%v", second)
	}
}

// P5.3

func TestAtEachEntryThatOfReturned(t *testing.T) {
	b := joined(batches())
	l, _ := hint.Of(b)
	records := slices.Concat(batches()...)
	if len(l) != len(records) {
		t.Fatalf("%d entries of %d records", len(l), len(records))
	}
	for i, e := range l {
		if r, err := hint.At(b, e); r != records[i] || err != api.OK {
			t.Errorf("At(%+v) = %+v, %d; want %+v", e, r, err, records[i])
		}
		if r, err := hint.At(b[:e.Off+e.Len], e); r != records[i] || err != api.OK {
			t.Errorf("At(%+v) at the end of the bytes = %+v, %d; want %+v", e, r, err, records[i])
		}
		checkNoRecord(t, "the last byte is missing", b[:e.Off+e.Len-1], e, api.ErrArg)
		checkNoRecord(t, "the record is missing", b[:e.Off], e, api.ErrArg)
	}
}

func TestAtOfEntriesThatAreNotValid(t *testing.T) {
	record := plainRecord(api.Rec{Seq: 3, Key: "k", Value: "v"})
	for _, b := range []string{"", "\x00", "12345" + record, "12345" + record + strings.Repeat("z", 2000), strings.Repeat(record, 1<<18)} {
		for _, e := range wrong() {
			checkNoRecord(t, "not valid", b, e, api.ErrArg)
		}
	}
	// What they tell of is there all the same.
	for _, r := range []api.Rec{{Seq: 0, Key: "k"}, {Seq: 1<<40 + 1, Key: "k"}, {Seq: 1}, {Seq: 1, Gone: true}, {Seq: 1, Key: text(41)}} {
		b := plainRecord(r)
		checkNoRecord(t, "not valid", b+"z", hint.Entry{Key: r.Key, Len: len(b), Seq: r.Seq, Gone: r.Gone}, api.ErrArg)
	}
}

func TestAtWithLessRoomThanTheEntryTells(t *testing.T) {
	record := plainRecord(api.Rec{Seq: 3, Key: "k", Value: "v"})
	for _, c := range []struct {
		name, b   string
		off, size int
	}{
		{"no bytes", "", 0, 1},
		{"no bytes, and a greater entry", "", 0, 5},
		{"no bytes, and the greatest entry", "", api.MostFile, 400},
		{"one byte beyond the end", record, 0, 6},
		{"one byte beyond the end, from the second on", record, 1, 5},
		{"from the end on", record, 5, 1},
		{"from behind the end on", record, 6, 1},
		{"from far behind the end on", record, api.MostFile, 5},
		{"far beyond the end", record, 0, 400},
		{"399 of 400 bytes", strings.Repeat("z", 399), 0, 400},
		{"one byte beyond the end of the greatest segment", strings.Repeat("z", api.MostFile), api.MostFile, 1},
	} {
		checkNoRecord(t, c.name, c.b, hint.Entry{Key: "k", Off: c.off, Len: c.size, Seq: 3}, api.ErrArg)
	}
}

func TestAtTheGreatestPlace(t *testing.T) {
	r := api.Rec{Seq: 3, Key: "k", Value: "v"}
	ahead := strings.Repeat("\x06\x01k\x01v\x00", api.MostFile/6+1)
	for _, behind := range []string{"", "z"} {
		e := hint.Entry{Key: "k", Off: api.MostFile, Len: 5, Seq: 3}
		if got, err := hint.At(ahead[:api.MostFile]+plainRecord(r)+behind, e); got != r || err != api.OK {
			t.Errorf("%+v, %d", got, err)
		}
		e.Off++
		checkNoRecord(t, "one further", ahead[:api.MostFile+1]+plainRecord(r)+behind, e, api.ErrArg)
	}
}

func TestAtAPlaceThatIsNoRecord(t *testing.T) {
	k := hint.Entry{Key: "k", Seq: 3}
	gone := hint.Entry{Key: "k", Seq: 3, Gone: true}
	ten := strings.Repeat("\x80", 10)
	for _, c := range []struct {
		name, place string
		e           hint.Entry
	}{
		{"a zero byte", "\x00", k},
		{"letters", "abcde", k},
		{"a number without an end", "\x86", k},
		{"a number of ten bytes without an end", ten, k},
		{"a number with a needless byte", "\x86\x00\x01k\x01v", k},
		{"a number alone", "\x06", k},
		{"a key of too few bytes", "\x06\x05k\x01v", k},
		{"a key's length with a needless byte", "\x06\x81\x00k\x01v", k},
		{"a key of 2^64 - 1 bytes", "\x06" + strings.Repeat("\xff", 9) + "\x01k\x01v", k},
		{"a value of too few bytes", "\x06\x01k\x02v", k},
		{"a value's length with a needless byte", "\x06\x01k\x81\x00v", k},
		{"a value of one byte too many", "\x06\x01k" + plainText(text(301)), k},
		{"no value", "\x06\x01k", k},
		{"a deletion with a value", "\x07\x01k\x01v", gone},
		{"a deletion with an empty value", "\x07\x01k\x00", gone},
		{"a record and a zero byte", "\x06\x01k\x01v\x00", k},
		{"a record and another byte", "\x06\x01k\x01vz", k},
		{"a byte and a record", "\x00\x06\x01k\x01v", k},
		{"a record without the first byte", "\x01k\x01v", k},
		{"a record without the last byte", "\x06\x01k\x01", k},
		{"a record without its value", "\x06\x01k", k},
		{"a deletion without the last byte", "\x07\x01", gone},
		{"the same record twice", "\x06\x01k\x01v\x06\x01k\x01v", k},
		{"the same deletion twice", "\x07\x01k\x07\x01k", gone},
		{"a record and a deletion", "\x06\x01k\x01v\x07\x01k", k},
		{"a batch", plainBatch([]api.Rec{{Seq: 3, Key: "k", Value: "v"}}), k},
		{"400 bytes that begin with a record", "\x06\x01k\x01v" + strings.Repeat("z", 395), k},
		{"record 0", "\x00\x01k\x01v", k},
		{"no key", "\x06\x00\x01v", k},
	} {
		for _, ahead := range []string{"", "z", "\x06\x01k\x01v", text(500)} {
			for _, behind := range []string{"", "z", "\x06\x01k\x01v", "k\x01v"} {
				e := c.e
				e.Off, e.Len = len(ahead), len(c.place)
				checkNoRecord(t, c.name, ahead+c.place+behind, e, api.ErrForm)
			}
		}
	}
}

// others are e with one field changed to another valid one.
func others(e hint.Entry) []hint.Entry {
	l := []hint.Entry{}
	add := func(change func(*hint.Entry)) {
		other := e
		change(&other)
		l = append(l, other)
	}
	for _, key := range []string{"\x00", "x", e.Key + "\x00", "\x00" + e.Key, e.Key + e.Key, e.Key[1:], e.Key[:len(e.Key)-1], strings.ToUpper(e.Key), text(40)} {
		add(func(o *hint.Entry) { o.Key = key })
	}
	for _, seq := range []uint64{1, 2, e.Seq - 1, e.Seq + 1, 2 * e.Seq, e.Seq / 2, api.MostSeq, e.Seq + 1<<32} {
		add(func(o *hint.Entry) { o.Seq = seq })
	}
	for _, by := range []int{1, 2, 5, 64} {
		add(func(o *hint.Entry) { o.Off += by })
		add(func(o *hint.Entry) { o.Off -= by })
		add(func(o *hint.Entry) { o.Len += by })
		add(func(o *hint.Entry) { o.Len -= by })
	}
	add(func(o *hint.Entry) { o.Gone = !o.Gone })
	return slices.DeleteFunc(l, func(o hint.Entry) bool { return o == e || !plainValid(o) })
}

func TestAtWithOneFieldOfAnother(t *testing.T) {
	b := joined(batches()) + strings.Repeat("z", 500)
	for _, e := range plainOf(batches()) {
		for _, o := range others(e) {
			checkNoRecord(t, "one field of another", b, o, api.ErrForm)
		}
	}
}

func TestAtEveryPlaceOfASegment(t *testing.T) {
	l := [][]api.Rec{{{Seq: 3, Key: "k", Value: "v"}}, {{Seq: 3, Key: "k", Value: "v"}, {Seq: 4, Key: "kk", Gone: true}}, {{Seq: 3, Key: "k", Value: "\x06\x01k\x01v"}}}
	b := joined(l)
	for off := range len(b) + 2 {
		for size := range len(b) + 2 {
			for _, e := range plainOf(l) {
				e.Off, e.Len = off, size
				checkAt(t, b, e)
			}
		}
	}
}

func TestAtOfARecordInTheValueOfAnother(t *testing.T) {
	b := plainRecord(api.Rec{Seq: 9, Key: "outer", Value: "..\x06\x01k\x01v.."})
	want := api.Rec{Seq: 3, Key: "k", Value: "v"}
	if r, err := hint.At(b, hint.Entry{Key: "k", Off: len(b) - 7, Len: 5, Seq: 3}); r != want || err != api.OK {
		t.Errorf("%+v, %d: the bytes are its encoding, wherever they are", r, err)
	}
}

// P5.4

func TestReadReturnsTheEntriesThatWereEncoded(t *testing.T) {
	lists := [][]hint.Entry{nil, edges(), slices.Repeat(edges()[:1], 2000), slices.Repeat(edges()[10:], 2000), plainOf(batches())}
	for _, size := range []int{1, 2, 3, 127, 128, 129, 1999, 2000} {
		lists = append(lists, entries(size))
	}
	for _, l := range lists {
		b, err := hint.Bytes(l)
		if err != api.OK {
			t.Fatalf("Bytes of %d entries: %d", len(l), err)
		}
		if got, err := hint.Read(b); !slices.Equal(got, l) || err != api.OK {
			t.Errorf("%d entries: %d, %d", len(l), len(got), err)
		}
	}
}

func TestEachEntryDescribesItsOwnRecord(t *testing.T) {
	segment := strings.Builder{}
	var records []api.Rec
	for _, l := range batches() {
		b, err := frame.Bytes(l...)
		if err != api.OK {
			t.Fatal(err)
		}
		segment.WriteString(b)
		records = append(records, l...)
	}
	of, _ := hint.Of(segment.String())
	b, err := hint.Bytes(of)
	if err != api.OK {
		t.Fatal(err)
	}
	l, err := hint.Read(b)
	if err != api.OK || len(l) != len(records) {
		t.Fatalf("%d entries of %d records, %d", len(l), len(records), err)
	}
	for i, e := range l {
		r, err := hint.At(segment.String(), e)
		if r != records[i] || err != api.OK {
			t.Errorf("entry %d: %+v, %d; want %+v", i, r, err, records[i])
		}
		if r.Key != e.Key || r.Seq != e.Seq || r.Gone != e.Gone || len(plainRecord(r)) != e.Len {
			t.Errorf("entry %d: %+v of %+v", i, e, r)
		}
	}
}

func FuzzRead(f *testing.F) {
	for _, b := range []string{"", "\x00", "\x01\x01k\x05\x0a\x03", "\x06\x01k\x01v", plainBytes(entries(3)), plainBatch(many(2)) + plainBatch(many(3))} {
		f.Add(b, 0, 1)
		f.Add(b, 5, 5)
	}
	f.Fuzz(func(t *testing.T, b string, off, size int) {
		checkRead(t, b)
		checkRead(t, plainSeal(b))
		checkRead(t, plainSeal("\x01"+b))
		l, err := hint.Read(plainSeal(b))
		if again, _ := hint.Bytes(l); err == api.OK && again != plainSeal(b) {
			t.Errorf("Bytes(%v) = %x, but it is the Read of %x", l, again, plainSeal(b))
		}
		for _, e := range append(l, hint.Entry{Key: "k", Off: off, Len: size, Seq: 3}) {
			checkAt(t, b, e)
			checkAt(t, "\x06\x01k\x01v"+b, e)
		}
		batches, n := frame.Scan(b)
		got, gotN := hint.Of(b)
		if !slices.Equal(got, plainOf(batches)) || gotN != n {
			t.Errorf("Of(%x) = %v, %d; want %v, %d", b, got, gotN, plainOf(batches), n)
		}
		for _, e := range got {
			if r, err := hint.At(b, e); err != api.OK && plainValid(e) {
				t.Errorf("At(%x, %+v) = %+v, %d", b, e, r, err)
			}
		}
	})
}
