package record_test

import (
	"encoding/binary"
	"math"
	"math/bits"
	"slices"
	"strings"
	"testing"

	"thwart/api"
	"thwart/record"
)

// plainRight follows the chapter's definition of a valid record.
func plainRight(r api.Rec) bool {
	switch {
	case r.Seq == 0, r.Seq > 1<<40:
		return false
	case r.Key == "", len(r.Key) > 40:
		return false
	case len(r.Value) > 300:
		return false
	}
	return !r.Gone || r.Value == ""
}

// plainBytes follows the chapter's definition of an encoding, also for records that are not valid.
func plainBytes(r api.Rec) string {
	n := 2 * r.Seq
	if r.Gone {
		n++
	}
	b := binary.AppendUvarint(nil, n)
	b = binary.AppendUvarint(b, uint64(len(r.Key)))
	b = append(b, r.Key...)
	if !r.Gone {
		b = binary.AppendUvarint(b, uint64(len(r.Value)))
		b = append(b, r.Value...)
	}
	return string(b)
}

// plainAll is the encodings one behind the other.
func plainAll(l []api.Rec) string {
	b := ""
	for _, r := range l {
		b += plainBytes(r)
	}
	return b
}

// plainNumber decodes a number that has the least bytes it can have.
func plainNumber(b string) (uint64, string, api.Errno) {
	n, size := binary.Uvarint([]byte(b))
	switch {
	case size == 0 && len(b) < 10:
		return 0, "", api.ErrShort
	case size <= 0, size != max(1, (bits.Len64(n)+6)/7):
		return 0, "", api.ErrForm
	}
	return n, b[size:], api.OK
}

// plainText decodes a string with its length ahead.
func plainText(b string) (string, string, api.Errno) {
	n, rest, err := plainNumber(b)
	switch {
	case err != api.OK:
		return "", "", err
	case n > uint64(len(rest)):
		return "", "", api.ErrShort
	}
	return rest[:n], rest[n:], api.OK
}

// plainRead follows the words of P3.1.
func plainRead(b string) (api.Rec, string, api.Errno) {
	n, b, err := plainNumber(b)
	if err != api.OK {
		return api.Rec{}, "", err
	}
	r := api.Rec{Seq: n >> 1, Gone: n&1 != 0}
	r.Key, b, err = plainText(b)
	if err == api.OK && !r.Gone {
		r.Value, b, err = plainText(b)
	}
	switch {
	case err != api.OK:
		return api.Rec{}, "", err
	case !plainRight(r):
		return api.Rec{}, "", api.ErrForm
	}
	return r, b, api.OK
}

func checkRead(t *testing.T, b string) {
	t.Helper()
	r, rest, err := record.Read(b)
	wantR, wantRest, wantErr := plainRead(b)
	if r != wantR || rest != wantRest || err != wantErr {
		t.Errorf("Read(%x) = %+v, %x, %d; want %+v, %x, %d", b, r, rest, err, wantR, wantRest, wantErr)
	}
}

// text is size bytes of many values.
func text(size int) string {
	b := make([]byte, size)
	for i := range b {
		b[i] = byte(i*37 + size)
	}
	return string(b)
}

// crossed is every record of the given numbers and sizes, deletions and others.
func crossed(seqs []uint64, keys, values []int) []api.Rec {
	l := []api.Rec{}
	for _, seq := range seqs {
		for _, key := range keys {
			for _, value := range values {
				for _, gone := range []bool{false, true} {
					l = append(l, api.Rec{Seq: seq, Key: text(key), Value: text(value), Gone: gone})
				}
			}
		}
	}
	return l
}

// records are valid ones and others: each edge of the number, of the key and of the value with each of the others.
func records() []api.Rec {
	seqs := []uint64{0, 1, 2, 3, 63, 64, 128, 8191, 8192, 1<<32 - 1, 1 << 32, 1<<40 - 1, 1 << 40, 1<<40 + 1, 1 << 41, 1<<62 + 1, 1<<63 - 1, 1 << 63, 1<<63 + 1, math.MaxUint64}
	return crossed(seqs, []int{0, 1, 2, 39, 40, 41, 127, 128, 296}, []int{0, 1, 127, 128, 299, 300, 301, 556, 70000})
}

// valid are those of records that are.
func valid() []api.Rec {
	return slices.DeleteFunc(records(), func(r api.Rec) bool { return !plainRight(r) })
}

// short is a record for messages.
func short(r api.Rec) []any {
	return []any{r.Seq, len(r.Key), len(r.Value), r.Gone}
}

// P3.1

func TestRightAtTheEdges(t *testing.T) {
	k40, v300 := strings.Repeat("k", 40), strings.Repeat("v", 300)
	for _, c := range []struct {
		name string
		r    api.Rec
		want bool
	}{
		{"zero value", api.Rec{}, false},
		{"Seq 0", api.Rec{Seq: 0, Key: "k", Value: "v"}, false},
		{"Seq 0, gone", api.Rec{Seq: 0, Key: "k", Gone: true}, false},
		{"Seq 1", api.Rec{Seq: 1, Key: "k", Value: "v"}, true},
		{"Seq 1, gone", api.Rec{Seq: 1, Key: "k", Gone: true}, true},
		{"MostSeq", api.Rec{Seq: api.MostSeq, Key: "k", Value: "v"}, true},
		{"MostSeq, gone", api.Rec{Seq: api.MostSeq, Key: "k", Gone: true}, true},
		{"Seq one more", api.Rec{Seq: api.MostSeq + 1, Key: "k", Value: "v"}, false},
		{"Seq one more, gone", api.Rec{Seq: api.MostSeq + 1, Key: "k", Gone: true}, false},
		{"Seq whose double runs over to 2", api.Rec{Seq: 1<<63 + 1, Key: "k"}, false},
		{"greatest Seq", api.Rec{Seq: math.MaxUint64, Key: "k"}, false},
		{"no key", api.Rec{Seq: 5, Value: "v"}, false},
		{"no key, gone", api.Rec{Seq: 5, Gone: true}, false},
		{"key of one byte", api.Rec{Seq: 5, Key: "\x00"}, true},
		{"key of MostKey", api.Rec{Seq: 5, Key: k40}, true},
		{"key of MostKey, gone", api.Rec{Seq: 5, Key: k40, Gone: true}, true},
		{"key of one more", api.Rec{Seq: 5, Key: k40 + "k"}, false},
		{"key of one more, gone", api.Rec{Seq: 5, Key: k40 + "k", Gone: true}, false},
		{"key of 21 runes in 42 bytes", api.Rec{Seq: 5, Key: strings.Repeat("é", 21)}, false},
		{"no value", api.Rec{Seq: 5, Key: "k"}, true},
		{"value of MostValue", api.Rec{Seq: 5, Key: "k", Value: v300}, true},
		{"value of one more", api.Rec{Seq: 5, Key: "k", Value: v300 + "v"}, false},
		{"value of 151 runes in 302 bytes", api.Rec{Seq: 5, Key: "k", Value: strings.Repeat("é", 151)}, false},
		{"all of the greatest", api.Rec{Seq: api.MostSeq, Key: k40, Value: v300}, true},
		{"gone with a value", api.Rec{Seq: 5, Key: "k", Value: "v", Gone: true}, false},
		{"gone with a value of one zero byte", api.Rec{Seq: 5, Key: "k", Value: "\x00", Gone: true}, false},
		{"gone with a value of MostValue", api.Rec{Seq: 5, Key: "k", Value: v300, Gone: true}, false},
		{"gone with a value of one more", api.Rec{Seq: 5, Key: "k", Value: v300 + "v", Gone: true}, false},
		{"gone with an empty value", api.Rec{Seq: 5, Key: "k", Value: "", Gone: true}, true},
	} {
		if got := record.Right(c.r); got != c.want {
			t.Errorf("%s: %v, want %v", c.name, got, c.want)
		}
		b, err := record.Bytes(c.r)
		if !c.want && (b != "" || err != api.ErrArg) {
			t.Errorf("%s: Bytes = %x, %d", c.name, b, err)
		}
		if c.want && (b != plainBytes(c.r) || err != api.OK) {
			t.Errorf("%s: Bytes = %x, %d; want %x", c.name, b, err, plainBytes(c.r))
		}
	}
}

func TestRightAndBytesOfAllEdgesTogether(t *testing.T) {
	for _, r := range records() {
		want := plainRight(r)
		if got := record.Right(r); got != want {
			t.Errorf("Right of %v = %v", short(r), got)
		}
		b, err := record.Bytes(r)
		if want && (b != plainBytes(r) || err != api.OK) {
			t.Errorf("Bytes of %v: %d bytes, %d", short(r), len(b), err)
		}
		if !want && (b != "" || err != api.ErrArg) {
			t.Errorf("Bytes of %v: %d bytes, %d", short(r), len(b), err)
		}
	}
}

func TestBytesExamples(t *testing.T) {
	for _, c := range []struct {
		r    api.Rec
		want string
	}{
		{api.Rec{Seq: 3, Key: "k", Gone: true}, "\x07\x01k"},
		{api.Rec{Seq: 3, Key: "k"}, "\x06\x01k\x00"},
		{api.Rec{Seq: 1, Key: "\x00", Value: "\x00"}, "\x02\x01\x00\x01\x00"},
		{api.Rec{Seq: 63, Key: "ab", Gone: true}, "\x7f\x02ab"},
		{api.Rec{Seq: 64, Key: "ab", Value: "xyz"}, "\x80\x01\x02ab\x03xyz"},
		{api.Rec{Seq: 150, Key: "é", Value: "\xff"}, "\xac\x02\x02\xc3\xa9\x01\xff"},
		{api.Rec{Seq: api.MostSeq, Key: "k", Value: "v"}, "\x80\x80\x80\x80\x80\x40\x01k\x01v"},
		{api.Rec{Seq: api.MostSeq, Key: "k", Gone: true}, "\x81\x80\x80\x80\x80\x40\x01k"},
		{api.Rec{Seq: 1, Key: strings.Repeat("k", 40), Value: strings.Repeat("v", 300)}, "\x02\x28" + strings.Repeat("k", 40) + "\xac\x02" + strings.Repeat("v", 300)},
		{api.Rec{Seq: 1, Key: "k", Value: strings.Repeat("v", 128)}, "\x02\x01k\x80\x01" + strings.Repeat("v", 128)},
	} {
		if b, err := record.Bytes(c.r); b != c.want || err != api.OK {
			t.Errorf("Bytes(%+v) = %x, %d; want %x", c.r, b, err, c.want)
		}
		if r, rest, err := record.Read(c.want); r != c.r || rest != "" || err != api.OK {
			t.Errorf("Read(%x) = %+v, %x, %d; want %+v", c.want, r, rest, err, c.r)
		}
	}
}

func TestReadErrors(t *testing.T) {
	ten := strings.Repeat("\x80", 10)
	for _, c := range []struct {
		name, b string
		want    api.Errno
	}{
		{"nothing", "", api.ErrShort},
		{"number without an end", "\x80", api.ErrShort},
		{"number of nine bytes without an end", ten[:9], api.ErrShort},
		{"number of ten bytes without an end", ten, api.ErrForm},
		{"number with a needless byte", "\x82\x00\x01k\x00", api.ErrForm},
		{"number with a needless byte, and no more", "\x87\x00", api.ErrForm},
		{"number of more than 64 bits", strings.Repeat("\xff", 9) + "\x02\x01k", api.ErrForm},

		{"no key", "\x06", api.ErrShort},
		{"no key, gone", "\x07", api.ErrShort},
		{"key's length without an end", "\x07\x81", api.ErrShort},
		{"key's length with a needless byte", "\x07\x81\x00k", api.ErrForm},
		{"key's length of ten bytes without an end", "\x07" + ten, api.ErrForm},
		{"key of too few bytes", "\x07\x02k", api.ErrShort},
		{"key's length too great for the record, with too few bytes", "\x07\x29" + strings.Repeat("k", 40), api.ErrShort},
		{"key's length 2^63, with too few bytes", "\x07" + ten[:9] + "\x01k", api.ErrShort},

		{"no value", "\x06\x01k", api.ErrShort},
		{"value's length without an end", "\x06\x01k\x80", api.ErrShort},
		{"value's length with a needless byte", "\x06\x01k\x80\x00", api.ErrForm},
		{"value's length of ten bytes without an end", "\x06\x01k" + ten, api.ErrForm},
		{"value of too few bytes", "\x06\x01k\x02v", api.ErrShort},
		{"value's length too great for the record, with too few bytes", "\x06\x01k\xad\x02" + strings.Repeat("v", 300), api.ErrShort},
		{"value's length 2^64 - 1, with too few bytes", "\x06\x01k" + strings.Repeat("\xff", 9) + "\x01v", api.ErrShort},

		{"Seq 0", "\x00\x01k\x01v", api.ErrForm},
		{"Seq 0, gone", "\x01\x01k", api.ErrForm},
		{"Seq of one too many", "\x82\x80\x80\x80\x80\x40\x01k\x01v", api.ErrForm},
		{"Seq of one too many, gone", "\x83\x80\x80\x80\x80\x40\x01k", api.ErrForm},
		{"Seq 2^63 - 1", "\xfe" + strings.Repeat("\xff", 8) + "\x01\x01k\x01v", api.ErrForm},
		{"Seq 2^63 - 1, gone", strings.Repeat("\xff", 9) + "\x01\x01k", api.ErrForm},
		{"key of no bytes", "\x06\x00\x01v", api.ErrForm},
		{"key of no bytes, gone", "\x07\x00", api.ErrForm},
		{"key of one byte too many", "\x06\x29" + strings.Repeat("k", 41) + "\x01v", api.ErrForm},
		{"key of one byte too many, gone", "\x07\x29" + strings.Repeat("k", 41), api.ErrForm},
		{"value of one byte too many", "\x06\x01k\xad\x02" + strings.Repeat("v", 301), api.ErrForm},

		{"Seq 0 with no key: the missing bytes come first", "\x00", api.ErrShort},
		{"Seq 0 with a short key: the missing bytes come first", "\x01\x02k", api.ErrShort},
		{"Seq 0 with no value: the missing bytes come first", "\x00\x01k", api.ErrShort},
		{"Seq of one too many with no key: the missing bytes come first", "\x82\x80\x80\x80\x80\x40", api.ErrShort},
		{"key of no bytes with no value: the missing bytes come first", "\x06\x00", api.ErrShort},
		{"key of no bytes with a short value: the missing bytes come first", "\x06\x00\x02v", api.ErrShort},
		{"key of one byte too many with no value: the missing bytes come first", "\x06\x29" + strings.Repeat("k", 41), api.ErrShort},
		{"key of one byte too many with a short value: the missing bytes come first", "\x06\x29" + strings.Repeat("k", 41) + "\x01", api.ErrShort},
		{"malformed number with no key: the number comes first", "\x80\x00", api.ErrForm},
		{"malformed key's length with no value: the key comes first", "\x06\x81\x00k", api.ErrForm},
		{"short key ahead of what would be malformed", "\x06\x09k\x80\x00", api.ErrShort},
	} {
		r, rest, err := record.Read(c.b)
		if r != (api.Rec{}) || rest != "" || err != c.want {
			t.Errorf("%s: Read(%x) = %+v, %x, %d; want error %d", c.name, c.b, r, rest, err, c.want)
		}
		if _, _, err := plainRead(c.b); err != c.want {
			t.Errorf("%s: plainRead errs: %d", c.name, err)
		}
		if l, err := record.List(c.b); len(l) != 0 || c.b != "" && err != c.want {
			t.Errorf("%s: List(%x) = %v, %d; want error %d", c.name, c.b, l, err, c.want)
		}
	}
}

func TestReadOfEncodingsOfAllEdgesTogether(t *testing.T) {
	for _, r := range records() {
		if r.Gone && r.Value != "" {
			continue // the value is not in the encoding
		}
		if r.Seq >= 1<<63 {
			continue // the doubled number does not fit
		}
		got, rest, err := record.Read(plainBytes(r) + "\x80z")
		if plainRight(r) && (got != r || rest != "\x80z" || err != api.OK) {
			t.Errorf("%v: %v, %x, %d", short(r), short(got), rest, err)
		}
		if !plainRight(r) && (got != api.Rec{} || rest != "" || err != api.ErrForm) {
			t.Errorf("%v: %v, %x, %d", short(r), short(got), rest, err)
		}
	}
}

func TestReadOfADeletionLeavesAValueBehindIt(t *testing.T) {
	want := api.Rec{Seq: 3, Key: "k", Gone: true}
	for _, after := range []string{"\x00", "\x01v", "\xac\x02", "\x80", "\x80\x00"} {
		if r, rest, err := record.Read("\x07\x01k" + after); r != want || rest != after || err != api.OK {
			t.Errorf("with %x behind: %+v, %x, %d", after, r, rest, err)
		}
	}
}

func TestReadOfManyStrings(t *testing.T) {
	for i := range 256 {
		checkRead(t, string([]byte{byte(i)}))
		for j := range 256 {
			checkRead(t, string([]byte{byte(i), byte(j)}))
			for _, after := range []string{"k", "k\x00", "k\x01v", "k\x80", "kk\x80\x00", "\x00\x01v", strings.Repeat("\x10", 400)} {
				checkRead(t, string([]byte{byte(i), byte(j)})+after)
				checkRead(t, "\x06"+string([]byte{byte(i), byte(j)})+after)
				checkRead(t, "\x06\x01k"+string([]byte{byte(i), byte(j)})+after)
			}
		}
	}
}

func TestReadOfEncodingsWithOneByteChanged(t *testing.T) {
	for _, r := range valid() {
		b := plainBytes(r)
		for at := range min(len(b), 60) {
			for _, x := range []byte{0x01, 0x02, 0x40, 0x80, 0xff} {
				changed := []byte(b)
				changed[at] ^= x
				checkRead(t, string(changed))
			}
		}
	}
}

// P3.2

func TestAllOfNoRecords(t *testing.T) {
	if b, err := record.All(); b != "" || err != api.OK {
		t.Errorf("%x, %d", b, err)
	}
	if b, err := record.All([]api.Rec{}...); b != "" || err != api.OK {
		t.Errorf("%x, %d", b, err)
	}
}

func TestAllExample(t *testing.T) {
	b, err := record.All(api.Rec{Seq: 1, Key: "a", Value: "x"}, api.Rec{Seq: 3, Key: "k", Gone: true}, api.Rec{Seq: 1, Key: "a"})
	if want := "\x02\x01a\x01x" + "\x07\x01k" + "\x02\x01a\x00"; b != want || err != api.OK {
		t.Errorf("%x, %d; want %x", b, err, want)
	}
}

func TestAllConcatenatesInOrder(t *testing.T) {
	l := valid()
	for size := range 40 {
		b, err := record.All(l[:size]...)
		if b != plainAll(l[:size]) || err != api.OK {
			t.Errorf("%d records: %d bytes, %d", size, len(b), err)
		}
	}
	slices.Reverse(l)
	if b, err := record.All(l...); b != plainAll(l) || err != api.OK {
		t.Errorf("%d records: %d bytes, %d", len(l), len(b), err)
	}
}

func TestAllDoesNotChangeItsArguments(t *testing.T) {
	l := valid()
	before := slices.Clone(l)
	record.All(l...)
	if !slices.Equal(l, before) {
		t.Error("the records are changed")
	}
}

func TestAllOfOneRecordIsItsBytes(t *testing.T) {
	for _, r := range records() {
		b, err := record.Bytes(r)
		if all, allErr := record.All(r); all != b || allErr != err {
			t.Errorf("%v: %d bytes, %d; want %d, %d", short(r), len(all), allErr, len(b), err)
		}
	}
}

// wrong are records of which each breaks one rule.
func wrong() []api.Rec {
	return []api.Rec{
		{},
		{Seq: 0, Key: "k", Value: "v"},
		{Seq: api.MostSeq + 1, Key: "k", Value: "v"},
		{Seq: 1, Value: "v"},
		{Seq: 1, Key: text(41)},
		{Seq: 1, Key: "k", Value: text(301)},
		{Seq: 1, Key: "k", Value: "v", Gone: true},
	}
}

func TestAllWithOneRecordThatIsNotValid(t *testing.T) {
	for i, bad := range wrong() {
		for at := range 4 {
			l := slices.Insert(valid()[:3:3], at, bad)
			if b, err := record.All(l...); b != "" || err != api.ErrArg {
				t.Errorf("wrong record %d at place %d: %x, %d", i, at, b, err)
			}
		}
	}
}

func TestListOfTheEmptyString(t *testing.T) {
	if l, err := record.List(""); len(l) != 0 || err != api.OK {
		t.Errorf("%v, %d", l, err)
	}
}

func TestListExample(t *testing.T) {
	l, err := record.List("\x02\x01a\x01x" + "\x07\x01k" + "\x02\x01a\x00" + "\x02\x01a\x00")
	want := []api.Rec{{Seq: 1, Key: "a", Value: "x"}, {Seq: 3, Key: "k", Gone: true}, {Seq: 1, Key: "a"}, {Seq: 1, Key: "a"}}
	if !slices.Equal(l, want) || err != api.OK {
		t.Errorf("%v, %d", l, err)
	}
}

func TestListReturnsTheRecordsOfAll(t *testing.T) {
	l := valid()
	for _, size := range []int{0, 1, 2, 3, 16, 17, 100, len(l)} {
		got, err := record.List(plainAll(l[:size]))
		if !slices.Equal(got, l[:size]) || err != api.OK {
			t.Errorf("%d records: %d, %d", size, len(got), err)
		}
	}
}

func TestListsOfTwoCallsShareNothing(t *testing.T) {
	b := plainAll(valid()[:3])
	first, _ := record.List(b)
	first[0] = api.Rec{}
	if second, err := record.List(b); !slices.Equal(second, valid()[:3]) || err != api.OK {
		t.Errorf("%v, %d", second, err)
	}
}

func TestListWithWrongBytesBehind(t *testing.T) {
	heads := []string{"", plainAll(valid()[:1]), plainAll(valid()[:7]), "\x07\x01k"}
	for _, head := range heads {
		for _, c := range []struct {
			behind string
			want   api.Errno
		}{
			{"\x80", api.ErrShort},
			{"\x06", api.ErrShort},
			{"\x00", api.ErrShort},
			{"\x07\x02k", api.ErrShort},
			{"\x06\x01k", api.ErrShort},
			{"\x06\x01k\x02v", api.ErrShort},
			{"\x07\x01k\x07", api.ErrShort},
			{"\x80\x00", api.ErrForm},
			{strings.Repeat("\x80", 10), api.ErrForm},
			{"\x06\x81\x00k\x00", api.ErrForm},
			{"\x06\x01k\x80\x00", api.ErrForm},
			{"\x01\x01k", api.ErrForm},
			{"\x07\x00", api.ErrForm},
			{"\x00\x01k\x00", api.ErrForm},
			{"\x83\x80\x80\x80\x80\x40\x01k", api.ErrForm},
			{"\x07\x29" + text(41), api.ErrForm},
			{"\x06\x01k\xad\x02" + text(301), api.ErrForm},
			{"\x07\x00" + "\x07\x01k", api.ErrForm},
			{"\x07\x00" + "\x80", api.ErrForm},
			{"\x07\x01k" + "\x07\x00" + "\x07\x01k", api.ErrForm},
		} {
			if l, err := record.List(head + c.behind); len(l) != 0 || err != c.want {
				t.Errorf("%x behind %d bytes: %v, %d; want %d", c.behind, len(head), l, err, c.want)
			}
		}
	}
}

func TestListOfEveryPrefix(t *testing.T) {
	l := []api.Rec{{Seq: 1, Key: "a", Value: "x"}, {Seq: 64, Key: text(40), Gone: true}, {Seq: api.MostSeq, Key: text(3), Value: text(300)}, {Seq: 2, Key: "b"}}
	ends := map[int]int{} // the size of each prefix that is whole, and the number of its records
	for size := range len(l) + 1 {
		ends[len(plainAll(l[:size]))] = size
	}
	b := plainAll(l)
	for cut := range len(b) + 1 {
		got, err := record.List(b[:cut])
		size, whole := ends[cut]
		if whole && (!slices.Equal(got, l[:size]) || err != api.OK) {
			t.Errorf("%d bytes: %v, %d; want %d records", cut, got, err, size)
		}
		if !whole && (len(got) != 0 || err != api.ErrShort) {
			t.Errorf("%d bytes: %v, %d; want ErrShort", cut, got, err)
		}
	}
}

func TestListOfManyRecords(t *testing.T) {
	l := make([]api.Rec, 100000)
	for i := range l {
		l[i] = api.Rec{Seq: uint64(i) + 1, Key: text(i%40 + 1), Gone: i%3 == 0}
		if !l[i].Gone {
			l[i].Value = text(i % 50)
		}
	}
	b, err := record.All(l...)
	if err != api.OK {
		t.Fatal(err)
	}
	if got, err := record.List(b); !slices.Equal(got, l) || err != api.OK {
		t.Errorf("%d records, %d", len(got), err)
	}
	if got, err := record.List(b + "\x07"); len(got) != 0 || err != api.ErrShort {
		t.Errorf("%d records, %d", len(got), err)
	}
}

// P3.3

func TestReadReturnsWhatBytesEncodedWhateverFollows(t *testing.T) {
	for _, r := range valid() {
		b, err := record.Bytes(r)
		if err != api.OK {
			t.Fatalf("Bytes of %v: %d", short(r), err)
		}
		for _, after := range []string{"", "\x00", "\x80", "\xff\xff", "\x80\x00", "zz", b} {
			got, rest, err := record.Read(b + after)
			if got != r || rest != after || err != api.OK {
				t.Errorf("%v, then %d bytes: %v, %d bytes, %d", short(r), len(after), short(got), len(rest), err)
			}
		}
	}
}

func TestBytesReturnsWhatWasRead(t *testing.T) {
	for i := range 1 << 16 {
		for _, after := range []string{"k", "k\x00", "k\x01v", "kk\x02vvv"} {
			b := string([]byte{byte(i), byte(i >> 8)}) + after
			r, rest, err := record.Read(b)
			if err != api.OK {
				continue
			}
			if again, err := record.Bytes(r); again+rest != b || err != api.OK {
				t.Errorf("Read(%x) = %+v, whose Bytes are %x, %d", b, r, again, err)
			}
		}
	}
}

func TestEveryProperPrefixIsShort(t *testing.T) {
	for _, r := range valid() {
		b, _ := record.Bytes(r)
		for cut := range len(b) {
			got, rest, err := record.Read(b[:cut])
			if got != (api.Rec{}) || rest != "" || err != api.ErrShort {
				t.Errorf("%d of %d bytes of %v: %v, %x, %d", cut, len(b), short(r), short(got), rest, err)
			}
		}
	}
}

func FuzzRead(f *testing.F) {
	for _, b := range []string{"", "\x07\x01k", "\x06\x01k\x00", "\x80\x02\x02ab\x01v", "\x02\x01a\x01x\x07\x01k", "\x80\x00", "\x07\x00", "\x06\x01k\x02v"} {
		f.Add(b)
	}
	f.Fuzz(func(t *testing.T, b string) {
		checkRead(t, b)
		l, err := record.List(b)
		if err != api.OK {
			if len(l) != 0 || err != api.ErrShort && err != api.ErrForm {
				t.Errorf("List(%x) = %v, %d", b, l, err)
			}
			return
		}
		if again, err := record.All(l...); again != b || err != api.OK {
			t.Errorf("List(%x) = %v, whose All is %x, %d", b, l, again, err)
		}
	})
}
