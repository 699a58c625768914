package frame_test

import (
	"encoding/binary"
	"hash/crc32"
	"math/bits"
	"slices"
	"strings"
	"testing"

	"thwart/api"
	"thwart/frame"
)

// plainNumber encodes a number as chapter 1 has it.
func plainNumber(n uint64) string {
	return string(binary.AppendUvarint(nil, n))
}

// plainText puts the length of s ahead of it.
func plainText(s string) string {
	return plainNumber(uint64(len(s))) + s
}

// plainSum is the checksum of s in four bytes, as chapter 2 has it.
func plainSum(s string) string {
	sum := crc32.Checksum([]byte(s), crc32.MakeTable(crc32.Castagnoli))
	return string(binary.LittleEndian.AppendUint32(nil, sum))
}

// plainFrame is contents, of whatever kind, with a right checksum and a right length ahead.
func plainFrame(contents string) string {
	return plainText(plainSum(contents) + contents)
}

// plainRecords encodes records as chapter 3 has it, also those that are not valid.
func plainRecords(l []api.Rec) string {
	var b strings.Builder
	for _, r := range l {
		n := 2 * r.Seq
		if r.Gone {
			n++
		}
		b.WriteString(plainNumber(n) + plainText(r.Key))
		if !r.Gone {
			b.WriteString(plainText(r.Value))
		}
	}
	return b.String()
}

// plainBytes is the encoding of a batch.
func plainBytes(l []api.Rec) string {
	return plainFrame(plainRecords(l))
}

// plainRight follows chapter 3's definition of a valid record.
func plainRight(r api.Rec) bool {
	return r.Seq != 0 && r.Seq <= 1<<40 && r.Key != "" && len(r.Key) <= 40 && len(r.Value) <= 300 && !(r.Gone && r.Value != "")
}

// plainTakeNumber decodes a number that has the least bytes it can have.
func plainTakeNumber(b string) (uint64, string, api.Errno) {
	n, size := binary.Uvarint([]byte(b[:min(len(b), 10)]))
	switch {
	case size == 0 && len(b) < 10:
		return 0, "", api.ErrShort
	case size <= 0, size != max(1, (bits.Len64(n)+6)/7):
		return 0, "", api.ErrForm
	}
	return n, b[size:], api.OK
}

// plainTakeText decodes a string with its length ahead.
func plainTakeText(b string) (string, string, api.Errno) {
	n, rest, err := plainTakeNumber(b)
	switch {
	case err != api.OK:
		return "", "", err
	case n > uint64(len(rest)):
		return "", "", api.ErrShort
	}
	return rest[:n], rest[n:], api.OK
}

// plainList decodes records up to the end of b, and tells whether all of b is records.
func plainList(b string) ([]api.Rec, bool) {
	var l []api.Rec
	for b != "" {
		var r api.Rec
		n, rest, err := plainTakeNumber(b)
		if err == api.OK {
			r.Seq, r.Gone = n>>1, n&1 != 0
			r.Key, rest, err = plainTakeText(rest)
		}
		if err == api.OK && !r.Gone {
			r.Value, rest, err = plainTakeText(rest)
		}
		if err != api.OK || !plainRight(r) {
			return nil, false
		}
		l, b = append(l, r), rest
	}
	return l, true
}

// plainTake follows the words of P4.2.
func plainTake(b string) ([]api.Rec, int, api.Errno) {
	s, rest, err := plainTakeText(b)
	if err != api.OK {
		return nil, 0, err
	}
	if len(s) < 4 || plainSum(s[4:]) != s[:4] {
		return nil, 0, api.ErrSum
	}
	l, ok := plainList(s[4:])
	if !ok || len(l) == 0 || len(l) > 16 {
		return nil, 0, api.ErrForm
	}
	return l, len(b) - len(rest), api.OK
}

// plainScan follows the words of P4.3.
func plainScan(b string) ([][]api.Rec, int) {
	l, n, err := plainTake(b)
	if err != api.OK {
		return nil, 0
	}
	batches, more := plainScan(b[n:])
	return append([][]api.Rec{l}, batches...), n + more
}

func sameBatches(a, b [][]api.Rec) bool {
	return slices.EqualFunc(a, b, slices.Equal[[]api.Rec])
}

func checkTake(t *testing.T, b string) {
	t.Helper()
	l, n, err := frame.Take(b)
	wantL, wantN, wantErr := plainTake(b)
	if !slices.Equal(l, wantL) || n != wantN || err != wantErr {
		t.Errorf("Take(%x) = %v, %d, %d; want %v, %d, %d", b, l, n, err, wantL, wantN, wantErr)
	}
}

func checkScan(t *testing.T, b string) {
	t.Helper()
	got, n := frame.Scan(b)
	want, wantN := plainScan(b)
	if !sameBatches(got, want) || n != wantN {
		t.Errorf("Scan(%x) = %v, %d; want %v, %d", b, got, n, want, wantN)
	}
}

// checkNoBatch tells that Take refuses b with that error, and that Scan then has nothing.
func checkNoBatch(t *testing.T, name, b string, want api.Errno) {
	t.Helper()
	if l, n, err := frame.Take(b); len(l) != 0 || n != 0 || err != want {
		t.Errorf("%s: Take(%x) = %v, %d, %d; want error %d", name, b, l, n, err, want)
	}
	if _, _, err := plainTake(b); err != want {
		t.Errorf("%s: plainTake errs: %d", name, err)
	}
	if batches, n := frame.Scan(b); len(batches) != 0 || n != 0 {
		t.Errorf("%s: Scan(%x) = %v, %d", name, b, batches, n)
	}
}

// text is size bytes of many values.
func text(size int) string {
	b := make([]byte, size)
	for i := range b {
		b[i] = byte(i*37 + size)
	}
	return string(b)
}

// many are valid records of many kinds, each another one.
func many(size int) []api.Rec {
	l := make([]api.Rec, size)
	for i := range l {
		l[i] = api.Rec{Seq: uint64(i)*97 + 1, Key: text(i%40 + 1), Gone: i%3 == 2}
		if !l[i].Gone {
			l[i].Value = text(i * 13 % 301)
		}
	}
	return l
}

// greatest are as many records as given, with the longest encoding a record can have.
func greatest(size int) []api.Rec {
	return slices.Repeat([]api.Rec{{Seq: api.MostSeq, Key: text(40), Value: text(300)}}, size)
}

// batches are of every size, and of the least and the greatest records.
func batches() [][]api.Rec {
	l := [][]api.Rec{
		{{Seq: 1, Key: "a"}},
		{{Seq: 1, Key: "\x00", Gone: true}},
		{{Seq: 3, Key: "k", Gone: true}},
		{{Seq: 1, Key: "a", Value: "v"}, {Seq: 2, Key: "b", Gone: true}},
		{{Seq: 9, Key: "k", Value: "new"}, {Seq: 9, Key: "k", Value: "new"}, {Seq: 8, Key: "k", Gone: true}},
		greatest(1),
		greatest(16),
	}
	for size := 1; size <= 16; size++ {
		l = append(l, many(size))
	}
	for _, value := range []int{116, 117, 118, 119, 120, 121, 122, 123, 124} { // around a length of 128
		l = append(l, []api.Rec{{Seq: 1, Key: "k", Value: text(value)}})
	}
	return l
}

// wrong are records of which each breaks one rule.
func wrong() []api.Rec {
	return []api.Rec{
		{},
		{Seq: 0, Key: "k", Value: "v"},
		{Seq: api.MostSeq + 1, Key: "k", Value: "v"},
		{Seq: 1, Value: "v"},
		{Seq: 1, Key: text(41)},
		{Seq: 1, Key: "k", Value: text(301)},
		{Seq: 1, Key: "k", Value: "v", Gone: true},
	}
}

// P4.1

func TestBytesWrittenOut(t *testing.T) {
	// The checksum of the three bytes 7, 1, 107 stands ahead of them, and the length of all seven ahead of it.
	sum := crc32.Checksum([]byte{7, 1, 107}, crc32.MakeTable(crc32.Castagnoli))
	want := string([]byte{7, byte(sum), byte(sum >> 8), byte(sum >> 16), byte(sum >> 24), 7, 1, 107})
	if b, err := frame.Bytes(api.Rec{Seq: 3, Key: "k", Gone: true}); b != want || err != api.OK {
		t.Errorf("%x, %d; want %x", b, err, want)
	}
}

func TestBytesOfManyBatches(t *testing.T) {
	for _, l := range batches() {
		if b, err := frame.Bytes(l...); b != plainBytes(l) || err != api.OK {
			t.Errorf("%d records: %x, %d; want %x", len(l), b, err, plainBytes(l))
		}
	}
}

func TestBytesOfTooFewOrTooManyRecords(t *testing.T) {
	for _, l := range [][]api.Rec{nil, {}, many(17), greatest(17), many(18), many(32), many(257), many(65537), make([]api.Rec, 17)} {
		if b, err := frame.Bytes(l...); b != "" || err != api.ErrArg {
			t.Errorf("%d records: %x, %d", len(l), b, err)
		}
	}
	if b, err := frame.Bytes(); b != "" || err != api.ErrArg {
		t.Errorf("no records: %x, %d", b, err)
	}
}

func TestBytesWithOneRecordThatIsNotValid(t *testing.T) {
	for i, bad := range wrong() {
		for _, size := range []int{0, 1, 2, 15, 16} {
			for at := range size + 1 {
				l := slices.Insert(many(size), at, bad)
				if b, err := frame.Bytes(l...); b != "" || err != api.ErrArg {
					t.Errorf("wrong record %d at place %d of %d: %x, %d", i, at, len(l), b, err)
				}
			}
		}
	}
}

func TestBytesDoesNotChangeItsArguments(t *testing.T) {
	l := many(16)
	before := slices.Clone(l)
	frame.Bytes(l[:15]...)
	frame.Bytes(l...)
	if !slices.Equal(l, before) {
		t.Error("the records are changed")
	}
}

// P4.2

func TestTakeOfALengthThatIsShortOrMalformed(t *testing.T) {
	contents := plainSum("\x07\x01k") + "\x07\x01k"
	for _, c := range []struct {
		name, b string
		want    api.Errno
	}{
		{"nothing", "", api.ErrShort},
		{"length without an end", "\x87", api.ErrShort},
		{"length of nine bytes without an end", strings.Repeat("\x80", 9), api.ErrShort},
		{"length of ten bytes without an end", strings.Repeat("\x80", 10), api.ErrForm},
		{"length of ten bytes without an end, and more", strings.Repeat("\x80", 10) + "\x00" + contents, api.ErrForm},
		{"length with a needless byte", "\x87\x00" + contents, api.ErrForm},
		{"length with a needless byte, and no more", "\x87\x00", api.ErrForm},
		{"length of 0 with a needless byte", "\x80\x00", api.ErrForm},
		{"length of more than 64 bits", strings.Repeat("\xff", 9) + "\x02" + contents, api.ErrForm},
		{"length 2^63", strings.Repeat("\x80", 9) + "\x01" + contents, api.ErrShort},
		{"length 2^64 - 1", strings.Repeat("\xff", 9) + "\x01" + contents, api.ErrShort},
		{"length 2^32 + 7", plainNumber(1<<32+7) + contents, api.ErrShort},
		{"length of one too many", "\x08" + contents, api.ErrShort},
		{"length and no string", "\x07", api.ErrShort},
		{"string that ends too early", "\x07" + contents[:6], api.ErrShort},
		{"string that ends too early, of a wrong checksum", "\x07" + "abcdef", api.ErrShort},
	} {
		checkNoBatch(t, c.name, c.b, c.want)
	}
}

func TestTakeOfAStringWithoutARightChecksum(t *testing.T) {
	good := plainRecords(many(2))
	sum := plainSum(good)
	reversed := []byte(sum)
	slices.Reverse(reversed)
	for _, c := range []struct{ name, b string }{
		{"empty string", plainText("")},
		{"string of one byte", plainText("\x00")},
		{"string of two bytes", plainText("\x00\x00")},
		{"string of three bytes", plainText("\x00\x00\x00")},
		{"four bytes that are not the checksum of nothing", plainText("\x00\x00\x00\x01")},
		{"letters", plainText("abcdef")},
		{"records without a checksum", plainText(good)},
		{"checksum of other records", plainText(plainSum("\x07\x01k") + good)},
		{"checksum behind", plainText(good + sum)},
		{"checksum with the highest byte first", plainText(string(reversed) + good)},
		{"zero for a checksum", plainText("\x00\x00\x00\x00" + good)},
		{"checksum of the whole with its length", plainText(plainSum(plainText(good)) + good)},
		{"other checksum of 32 bits", plainText(string(binary.LittleEndian.AppendUint32(nil, crc32.ChecksumIEEE([]byte(good)))) + good)},
		{"length of one too few", plainNumber(uint64(len(good)+3)) + sum + good},
		{"wrong checksum of what is no record", plainText("\x01\x02\x03\x04\x80\x00")},
		{"wrong checksum of too many records", plainText("\x01\x02\x03\x04" + plainRecords(many(17)))},
	} {
		checkNoBatch(t, c.name, c.b, api.ErrSum)
		checkNoBatch(t, c.name+", and more", c.b+plainBytes(many(1)), api.ErrSum)
	}
}

func TestTakeOfARightChecksumAndOtherContents(t *testing.T) {
	k := "\x07\x01k"
	for _, c := range []struct{ name, contents string }{
		{"no record", ""},
		{"a byte that ends too early", "\x02"},
		{"a number without an end", "\x80"},
		{"a number with a needless byte", "\x87\x00\x01k"},
		{"a key that ends too early", "\x07\x02k"},
		{"no value", "\x06\x01k"},
		{"a value that ends too early", "\x06\x01k\x02v"},
		{"number 0", "\x01\x01k"},
		{"no key", "\x07\x00"},
		{"number of one too many", plainRecords([]api.Rec{{Seq: api.MostSeq + 1, Key: "k"}})},
		{"key of one byte too many", plainRecords([]api.Rec{{Seq: 1, Key: text(41)}})},
		{"value of one byte too many", plainRecords([]api.Rec{{Seq: 1, Key: "k", Value: text(301)}})},
		{"a record and a short one", k + "\x07"},
		{"a record and a malformed one", k + "\x07\x00"},
		{"a malformed one and a record", "\x07\x00" + k},
		{"a record and a zero byte", k + "\x00"},
		{"a batch", plainFrame(k)},
		{"17 records", plainRecords(many(17))},
		{"17 of the greatest records", plainRecords(greatest(17))},
		{"32 records", plainRecords(many(32))},
		{"257 records", plainRecords(many(257))},
		{"10000 records", plainRecords(many(10000))},
		{"16 records and a short one", plainRecords(many(16)) + "\x07"},
		{"17 records and a malformed one", plainRecords(many(17)) + "\x07\x00"},
	} {
		checkNoBatch(t, c.name, plainFrame(c.contents), api.ErrForm)
		checkNoBatch(t, c.name+", and more", plainFrame(c.contents)+"\x07\x01k", api.ErrForm)
	}
}

func TestTakeWithBytesBehind(t *testing.T) {
	for _, l := range batches() {
		b := plainBytes(l)
		for _, after := range []string{"", "\x00", "z", "zz", "\x80", "\x80\x00", "\xff\xff\xff\xff", b, b[:len(b)-1], text(1000)} {
			got, n, err := frame.Take(b + after)
			if !slices.Equal(got, l) || n != len(b) || err != api.OK {
				t.Errorf("%d records with %x behind: %v, %d, %d; want %d bytes", len(l), after, got, n, err, len(b))
			}
		}
	}
}

func TestTakeOfShortStrings(t *testing.T) {
	for i := range 256 {
		checkTake(t, string([]byte{byte(i)}))
		for j := range 256 {
			b := string([]byte{byte(i), byte(j)})
			checkTake(t, b)
			checkTake(t, plainFrame(b))
			checkTake(t, plainFrame("\x07\x01k"+b+"k"))
			checkTake(t, plainFrame(b+"k\x01v"))
			checkTake(t, b+plainSum("\x07\x01k")+"\x07\x01k")
		}
	}
}

func TestTakeWithEveryBitTurned(t *testing.T) {
	for _, l := range [][]api.Rec{{{Seq: 3, Key: "k", Gone: true}}, many(2), many(5), many(16)} {
		b := plainBytes(l)
		head := len(plainNumber(uint64(len(plainRecords(l)) + 4)))
		for bit := range 8 * len(b) {
			turned := []byte(b)
			turned[bit/8] ^= 1 << (bit % 8)
			checkTake(t, string(turned))
			got, n, err := frame.Take(string(turned))
			if len(got) != 0 || n != 0 || err == api.OK {
				t.Errorf("bit %d of %x: %v, %d, %d", bit, b, got, n, err)
			}
			if bit/8 >= head && err != api.ErrSum {
				t.Errorf("bit %d of %x: error %d, want ErrSum", bit, b, err)
			}
			if batches, n := frame.Scan(plainBytes(many(1)) + string(turned) + b); len(batches) != 1 || n != len(plainBytes(many(1))) {
				t.Errorf("bit %d of %x behind a batch: %v, %d", bit, b, batches, n)
			}
		}
	}
}

func TestTakesShareNothing(t *testing.T) {
	b := plainBytes(many(3))
	first, _, _ := frame.Take(b)
	first[0] = api.Rec{}
	if second, n, err := frame.Take(b); !slices.Equal(second, many(3)) || n != len(b) || err != api.OK {
		t.Errorf("%v, %d, %d", second, n, err)
	}
}

// P4.3

func TestScanOfTheEmptyString(t *testing.T) {
	if l, n := frame.Scan(""); len(l) != 0 || n != 0 {
		t.Errorf("%v, %d", l, n)
	}
}

// joined are the batches' encodings, one behind the other.
func joined(l [][]api.Rec) string {
	b := ""
	for _, batch := range l {
		b += plainBytes(batch)
	}
	return b
}

func TestScanOfSeveralBatches(t *testing.T) {
	all := batches()
	for size := range len(all) + 1 {
		b := joined(all[:size])
		if got, n := frame.Scan(b); !sameBatches(got, all[:size]) || n != len(b) {
			t.Errorf("%d batches: %d, %d bytes; want %d", size, len(got), n, len(b))
		}
	}
	slices.Reverse(all)
	if got, n := frame.Scan(joined(all)); !sameBatches(got, all) || n != len(joined(all)) {
		t.Errorf("in reverse: %d, %d bytes; want %d", len(got), n, len(joined(all)))
	}
}

func TestScanWithBytesBehindThatAreNoBatch(t *testing.T) {
	good := plainBytes(many(1))
	for _, size := range []int{0, 1, 2, 5} {
		head := batches()[:size]
		b := joined(head)
		for _, after := range []string{
			"\x00", "z", "zzzzzzzz", "\x80", "\x80\x00", strings.Repeat("\x80", 10), "\x05",
			plainText(""), plainText("abc"), plainText("abcdef"),
			plainFrame(""), plainFrame("\x02"), plainFrame("\x07\x00"), plainFrame(plainRecords(many(17))),
			"\x07\x01k", strings.Repeat("\x00", 100), strings.Repeat("\xff", 100),
		} {
			for _, behind := range []string{"", good} {
				if got, n := frame.Scan(b + after + behind); !sameBatches(got, head) || n != len(b) {
					t.Errorf("%x behind %d batches: %v, %d; want %d bytes", after+behind, size, got, n, len(b))
				}
			}
		}
	}
}

func TestScanOfManyBatches(t *testing.T) {
	one := plainBytes(many(1))
	b := strings.Repeat(one, 50000)
	if got, n := frame.Scan(b + one[:len(one)-1]); len(got) != 50000 || n != len(b) {
		t.Errorf("%d, %d", len(got), n)
	}
}

func TestBatchesOfAScanShareNothing(t *testing.T) {
	b := strings.Repeat(plainBytes(many(3)), 3)
	first, _ := frame.Scan(b)
	_ = append(first[0], api.Rec{Seq: 7, Key: "other"})
	first[0][0] = api.Rec{}
	if !slices.Equal(first[1], many(3)) || !slices.Equal(first[2], many(3)) {
		t.Errorf("the other batches: %v", first[1:])
	}
	if second, n := frame.Scan(b); !sameBatches(second, [][]api.Rec{many(3), many(3), many(3)}) || n != len(b) {
		t.Errorf("%v, %d", second, n)
	}
}

// P4.4

func TestTakeReturnsWhatBytesEncoded(t *testing.T) {
	for _, l := range batches() {
		b, err := frame.Bytes(l...)
		if err != api.OK {
			t.Fatalf("Bytes of %d records: %d", len(l), err)
		}
		if got, n, err := frame.Take(b); !slices.Equal(got, l) || n != len(b) || err != api.OK {
			t.Errorf("%d records: %v, %d, %d; want %d bytes", len(l), got, n, err, len(b))
		}
	}
}

func TestTwoBatchesWithoutTheLastByte(t *testing.T) {
	first, second := []api.Rec{{Seq: 1, Key: "a", Value: "v"}}, []api.Rec{{Seq: 2, Key: "b", Gone: true}}
	b, _ := frame.Bytes(first...)
	c, _ := frame.Bytes(second...)
	all := b + c
	if got, n := frame.Scan(all[:len(all)-1]); !sameBatches(got, [][]api.Rec{first}) || n != len(b) {
		t.Errorf("%v, %d; want %d bytes", got, n, len(b))
	}
}

func TestEveryProperPrefixOfABatchIsShort(t *testing.T) {
	for _, l := range batches() {
		b, _ := frame.Bytes(l...)
		for cut := range len(b) {
			checkNoBatch(t, "prefix", b[:cut], api.ErrShort)
		}
	}
}

func TestScanOfBatchesTruncatedAtEveryPlace(t *testing.T) {
	l := [][]api.Rec{{{Seq: 3, Key: "k", Gone: true}}, many(4), {{Seq: 1, Key: "a", Value: "v"}, {Seq: 2, Key: "b", Gone: true}}, {{Seq: 3, Key: "k", Gone: true}}, many(16)}
	all, ends := "", []int{0}
	for _, batch := range l {
		b, err := frame.Bytes(batch...)
		if err != api.OK {
			t.Fatal(err)
		}
		all += b
		ends = append(ends, len(all))
	}
	whole := 0
	for cut := range len(all) + 1 {
		if whole < len(l) && cut == ends[whole+1] {
			whole++
		}
		if got, n := frame.Scan(all[:cut]); !sameBatches(got, l[:whole]) || n != ends[whole] {
			t.Errorf("%d of %d bytes: %d batches, %d; want %d, %d", cut, len(all), len(got), n, whole, ends[whole])
		}
	}
	if whole != len(l) {
		t.Errorf("only %d batches were whole", whole)
	}
}

func FuzzScan(f *testing.F) {
	for _, b := range []string{"", "\x87\x00", "\x05abcde", plainBytes(many(1)), plainBytes(many(2)) + plainBytes(many(3)), plainFrame(""), plainFrame("\x02")} {
		f.Add(b)
	}
	f.Fuzz(func(t *testing.T, b string) {
		checkTake(t, b)
		checkTake(t, plainFrame(b))
		checkScan(t, b)
		checkScan(t, plainFrame(b)+plainBytes(many(1))+b)
		batches, n := frame.Scan(b)
		again := ""
		for _, l := range batches {
			c, err := frame.Bytes(l...)
			if err != api.OK {
				t.Errorf("Bytes(%v): %d", l, err)
			}
			again += c
		}
		if again != b[:n] {
			t.Errorf("Scan(%x) = %v, %d, whose bytes are %x", b, batches, n, again)
		}
	})
}
