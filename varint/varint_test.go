package varint_test

import (
	"math"
	"math/big"
	"slices"
	"strings"
	"testing"

	"thwart/api"
	"thwart/varint"
)

// lastOfLength is the greatest number whose encoding has so many bytes (1 to 10).
func lastOfLength(bytes int) uint64 {
	if bytes == 10 {
		return math.MaxUint64
	}
	return 1<<(7*bytes) - 1
}

// numbers are the edges of every length, each power of two with its neighbours, and some between.
func numbers() []uint64 {
	l := []uint64{0, 1, 2, 5, 100, 172, 255, 256, 300, 16384 + 128, 1 << 40, 123456789, 0x0123456789abcdef, 0xfedcba9876543210}
	for i := range 64 {
		p := uint64(1) << i
		l = append(l, p-1, p, p+1)
	}
	for bytes := 1; bytes <= 10; bytes++ {
		l = append(l, lastOfLength(bytes), lastOfLength(bytes)+1)
	}
	n := uint64(1)
	for range 2000 {
		n = n*6364136223846793005 + 1442695040888963407
		l = append(l, n, n>>(n%64))
	}
	return l
}

// plainPut follows the words of P1.1, with unbounded integers.
func plainPut(n uint64) string {
	v := new(big.Int).SetUint64(n)
	groups := []byte{}
	for v.Sign() != 0 || len(groups) == 0 {
		groups = append(groups, byte(new(big.Int).And(v, big.NewInt(127)).Int64()))
		v.Rsh(v, 7)
	}
	for i := range groups[:len(groups)-1] {
		groups[i] += 128
	}
	return string(groups)
}

// plainTake follows the words of P1.2, with unbounded integers.
func plainTake(b string) (uint64, string, api.Errno) {
	end := slices.IndexFunc([]byte(b), func(c byte) bool { return c < 128 })
	switch {
	case end < 0 && len(b) < 10:
		return 0, "", api.ErrShort
	case end < 0 || end > 9:
		return 0, "", api.ErrForm
	}
	v := new(big.Int)
	for i := end; i >= 0; i-- {
		v.Lsh(v, 7)
		v.Or(v, big.NewInt(int64(b[i]&127)))
	}
	if !v.IsUint64() || plainPut(v.Uint64()) != b[:end+1] {
		return 0, "", api.ErrForm
	}
	return v.Uint64(), b[end+1:], api.OK
}

func checkTake(t *testing.T, b string) {
	t.Helper()
	n, rest, err := varint.Take(b)
	wantN, wantRest, wantErr := plainTake(b)
	if n != wantN || rest != wantRest || err != wantErr {
		t.Errorf("Take(%x) = %d, %x, %d; want %d, %x, %d", b, n, rest, err, wantN, wantRest, wantErr)
	}
}

// P1.1

func TestPutExamples(t *testing.T) {
	for _, c := range []struct {
		n    uint64
		want string
	}{
		{0, "\x00"},
		{1, "\x01"},
		{127, "\x7f"},
		{128, "\x80\x01"},
		{129, "\x81\x01"},
		{255, "\xff\x01"},
		{300, "\xac\x02"},
		{16383, "\xff\x7f"},
		{16384, "\x80\x80\x01"},
		{1 << 40, "\x80\x80\x80\x80\x80\x20"},
		{1 << 63, "\x80\x80\x80\x80\x80\x80\x80\x80\x80\x01"},
		{1<<63 - 1, "\xff\xff\xff\xff\xff\xff\xff\xff\x7f"},
		{math.MaxUint64, "\xff\xff\xff\xff\xff\xff\xff\xff\xff\x01"},
	} {
		if got := varint.Put(c.n); got != c.want {
			t.Errorf("Put(%d) = %x, want %x", c.n, got, c.want)
		}
	}
}

func TestPutFollowsTheGroups(t *testing.T) {
	for _, n := range numbers() {
		if got := varint.Put(n); got != plainPut(n) {
			t.Errorf("Put(%d) = %x, want %x", n, got, plainPut(n))
		}
	}
}

func TestPutLengthGrowsBehindTheLastNumberOfEachLength(t *testing.T) {
	for bytes := 1; bytes <= 10; bytes++ {
		last := lastOfLength(bytes)
		if got := len(varint.Put(last)); got != bytes {
			t.Errorf("Put(%d) has %d bytes, want %d", last, got, bytes)
		}
		if bytes == 10 {
			break
		}
		if got := len(varint.Put(last + 1)); got != bytes+1 {
			t.Errorf("Put(%d) has %d bytes, want %d", last+1, got, bytes+1)
		}
	}
}

func TestPutMarksAllBytesButTheLast(t *testing.T) {
	for _, n := range numbers() {
		b := varint.Put(n)
		for i := range len(b) {
			if marked := b[i] >= 128; marked != (i < len(b)-1) {
				t.Errorf("Put(%d) = %x: byte %d", n, b, i)
			}
		}
	}
}

func TestResultsAreNotSharedByCalls(t *testing.T) {
	a := varint.Put(300)
	b := varint.Put(math.MaxUint64)
	if a != "\xac\x02" || b != plainPut(math.MaxUint64) {
		t.Errorf("%x, %x", a, b)
	}
}

// P1.2

func TestTakeExamples(t *testing.T) {
	full := strings.Repeat("\xff", 9)
	for _, c := range []struct {
		b    string
		n    uint64
		rest string
		err  api.Errno
	}{
		{"\x00", 0, "", api.OK},
		{"\x00\x00", 0, "\x00", api.OK},
		{"\x7f", 127, "", api.OK},
		{"\xac\x02", 300, "", api.OK},
		{"\xac\x02\xff\xff", 300, "\xff\xff", api.OK},
		{full + "\x01", math.MaxUint64, "", api.OK},
		{full + "\x01\x80", math.MaxUint64, "\x80", api.OK},
		{full[:8] + "\x7f", 1<<63 - 1, "", api.OK},

		{"", 0, "", api.ErrShort},
		{"\x80", 0, "", api.ErrShort},
		{"\xff\xff", 0, "", api.ErrShort},
		{full, 0, "", api.ErrShort},
		{strings.Repeat("\x80", 9), 0, "", api.ErrShort},

		{full + "\xff", 0, "", api.ErrForm},
		{strings.Repeat("\x80", 10), 0, "", api.ErrForm},
		{strings.Repeat("\x80", 10) + "\x01", 0, "", api.ErrForm},
		{full + "\x81\x00", 0, "", api.ErrForm},
		{strings.Repeat("\x80", 1000), 0, "", api.ErrForm},

		{"\x80\x00", 0, "", api.ErrForm},
		{"\x80\x00abc", 0, "", api.ErrForm},
		{"\xac\x82\x00", 0, "", api.ErrForm},
		{full + "\x00", 0, "", api.ErrForm},
		{full + "\x02", 0, "", api.ErrForm},
		{full + "\x03", 0, "", api.ErrForm},
		{full + "\x7f", 0, "", api.ErrForm},
		{strings.Repeat("\x80", 9) + "\x02", 0, "", api.ErrForm},
		{strings.Repeat("\x80", 9) + "\x40", 0, "", api.ErrForm},
	} {
		n, rest, err := varint.Take(c.b)
		if n != c.n || rest != c.rest || err != c.err {
			t.Errorf("Take(%x) = %d, %x, %d; want %d, %x, %d", c.b, n, rest, err, c.n, c.rest, c.err)
		}
	}
}

func TestTakeOfAllShortStrings(t *testing.T) {
	checkTake(t, "")
	for i := range 256 {
		checkTake(t, string([]byte{byte(i)}))
		for j := range 256 {
			checkTake(t, string([]byte{byte(i), byte(j)}))
		}
	}
}

func TestTakeOfEachLengthWithEachLastByte(t *testing.T) {
	for size := range 13 {
		for _, first := range []string{"\x80", "\x81", "\xd5", "\xff"} {
			head := strings.Repeat(first, size)
			for last := range 256 {
				checkTake(t, head+string([]byte{byte(last)}))
				checkTake(t, head+string([]byte{byte(last)})+"\x00tail")
			}
		}
	}
}

func TestTakeOfCutNumbersIsShort(t *testing.T) {
	for _, n := range numbers() {
		b := varint.Put(n)
		for size := range len(b) {
			m, rest, err := varint.Take(b[:size])
			if m != 0 || rest != "" || err != api.ErrShort {
				t.Errorf("Take(%x) = %d, %x, %d", b[:size], m, rest, err)
			}
		}
	}
}

// P1.3

func TestZigExamples(t *testing.T) {
	for _, c := range []struct {
		n    int64
		want uint64
	}{
		{0, 0}, {-1, 1}, {1, 2}, {-2, 3}, {2, 4}, {-64, 127}, {64, 128},
		{math.MaxInt64, math.MaxUint64 - 1},
		{math.MinInt64, math.MaxUint64},
		{math.MinInt64 + 1, math.MaxUint64 - 2},
	} {
		if got := varint.Zig(c.n); got != c.want {
			t.Errorf("Zig(%d) = %d, want %d", c.n, got, c.want)
		}
		if got := varint.Zag(c.want); got != c.n {
			t.Errorf("Zag(%d) = %d, want %d", c.want, got, c.n)
		}
	}
}

// plainZig follows the words of P1.3, with unbounded integers.
func plainZig(n int64) uint64 {
	v := big.NewInt(n)
	if n >= 0 {
		return v.Mul(v, big.NewInt(2)).Uint64()
	}
	return v.Sub(v.Mul(v, big.NewInt(-2)), big.NewInt(1)).Uint64()
}

func TestZigAndZagAreInverse(t *testing.T) {
	for _, n := range numbers() {
		s := int64(n)
		if got := varint.Zig(s); got != plainZig(s) {
			t.Errorf("Zig(%d) = %d, want %d", s, got, plainZig(s))
		}
		if got := varint.Zag(varint.Zig(s)); got != s {
			t.Errorf("Zag(Zig(%d)) = %d", s, got)
		}
		if got := varint.Zig(varint.Zag(n)); got != n {
			t.Errorf("Zig(Zag(%d)) = %d", n, got)
		}
	}
}

// P1.4

func TestText(t *testing.T) {
	for _, c := range []struct{ s, want string }{
		{"", "\x00"},
		{"a", "\x01a"},
		{"ab\x00\xff", "\x04ab\x00\xff"},
		{strings.Repeat("x", 127), "\x7f" + strings.Repeat("x", 127)},
		{strings.Repeat("x", 128), "\x80\x01" + strings.Repeat("x", 128)},
		{strings.Repeat("x", 300), "\xac\x02" + strings.Repeat("x", 300)},
		{strings.Repeat("x", 1<<20), "\x80\x80\x40" + strings.Repeat("x", 1<<20)},
		{"é", "\x02\xc3\xa9"},
	} {
		if got := varint.Text(c.s); got != c.want {
			t.Errorf("Text of %d bytes begins with %x", len(c.s), got[:min(len(got), 8)])
		}
	}
}

func TestOfTextExamples(t *testing.T) {
	full := strings.Repeat("\xff", 9)
	for _, c := range []struct {
		b, s, rest string
		err        api.Errno
	}{
		{"\x00", "", "", api.OK},
		{"\x00abc", "", "abc", api.OK},
		{"\x02ab", "ab", "", api.OK},
		{"\x02abc", "ab", "c", api.OK},
		{"\x80\x01" + strings.Repeat("y", 130), strings.Repeat("y", 128), "yy", api.OK},

		{"", "", "", api.ErrShort},
		{"\x80", "", "", api.ErrShort},
		{full, "", "", api.ErrShort},
		{"\x01", "", "", api.ErrShort},
		{"\x03ab", "", "", api.ErrShort},
		{"\x80\x01" + strings.Repeat("y", 127), "", "", api.ErrShort},
		{full + "\x01abc", "", "", api.ErrShort},                                 // 2^64 - 1 bytes
		{strings.Repeat("\x80", 9) + "\x01abc", "", "", api.ErrShort},            // 2^63 bytes
		{"\x80\x80\x80\x80\x10abc", "", "", api.ErrShort},                        // 2^32 bytes
		{"\x82\x80\x80\x80\x10abc", "", "", api.ErrShort},                        // 2^32 + 2 bytes
		{"\x82\x80\x80\x80\x80\x80\x80\x80\x80\x01abc", "", "", api.ErrShort},    // 2^63 + 2 bytes
		{"\x80\x00", "", "", api.ErrForm},                                        // a needless byte
		{"\x82\x00abc", "", "", api.ErrForm},                                     // a needless byte
		{full + "\x02abc", "", "", api.ErrForm},                                  // more than 64 bits
		{strings.Repeat("\x80", 10) + "\x01abc", "", "", api.ErrForm},            // more than 10 bytes
		{"\x82\x80\x80\x80\x80\x80\x80\x80\x80\x02abc", "", "", api.ErrForm},     // 2^64 + 2
		{"\x80\x80\x80\x80\x80\x80\x80\x80\x80\x80\x80", "", "", api.ErrForm},    // no end
		{"\x80\x80\x80\x80\x80\x80\x80\x80\x80", "", "", api.ErrShort},           // no end, but it could come
		{"\x81\x80\x80\x80\x80\x80\x80\x80\x80\x00a", "", "", api.ErrForm},       // a needless tenth byte
		{strings.Repeat("\x80", 9) + "\x80" + "abc", "", "", api.ErrForm},        // an eleventh byte ends it
		{varint.Text("") + varint.Text("b"), "", "\x01b", api.OK},                // an empty text ahead
		{varint.Text("\x80\x80") + "\x80", "\x80\x80", "\x80", api.OK},           // marks within the text
		{varint.Text(strings.Repeat("z", 127)), strings.Repeat("z", 127), "", 0}, // the last length of one byte
	} {
		s, rest, err := varint.OfText(c.b)
		if s != c.s || rest != c.rest || err != c.err {
			t.Errorf("OfText(%x) = %x, %x, %d; want %x, %x, %d", c.b, s, rest, err, c.s, c.rest, c.err)
		}
	}
}

func TestOfTextReturnsTheTextWhateverFollows(t *testing.T) {
	for _, size := range []int{0, 1, 2, 126, 127, 128, 129, 255, 256, 300, 16383, 16384, 70000} {
		s := strings.Repeat("\x80k", size)[:size]
		for _, after := range []string{"", "\x00", "\x80", "\xff\xff", "more"} {
			got, rest, err := varint.OfText(varint.Text(s) + after)
			if got != s || rest != after || err != api.OK {
				t.Errorf("a text of %d bytes, then %x: %d bytes, then %x, %d", size, after, len(got), rest, err)
			}
		}
	}
}

func TestOfTextOfACutTextIsShort(t *testing.T) {
	for _, size := range []int{0, 1, 127, 128, 300} {
		b := varint.Text(strings.Repeat("\x00", size))
		for cut := range len(b) {
			s, rest, err := varint.OfText(b[:cut])
			if s != "" || rest != "" || err != api.ErrShort {
				t.Errorf("%d of %d bytes: %x, %x, %d", cut, len(b), s, rest, err)
			}
		}
	}
}

// P1.5

func TestTakeReturnsWhatWasPutWhateverFollows(t *testing.T) {
	for _, n := range numbers() {
		for _, after := range []string{"", "\x00", "\x01", "\x7f", "\x80", "\xff", "\x80\x00", strings.Repeat("\xff", 20)} {
			m, rest, err := varint.Take(varint.Put(n) + after)
			if m != n || rest != after || err != api.OK {
				t.Errorf("%d, then %x: %d, then %x, %d", n, after, m, rest, err)
			}
		}
	}
}

func TestNumbersOneBehindTheOther(t *testing.T) {
	all := strings.Builder{}
	for _, n := range numbers() {
		all.WriteString(varint.Put(n))
	}
	rest := all.String()
	for _, n := range numbers() {
		m, after, err := varint.Take(rest)
		if m != n || err != api.OK {
			t.Fatalf("%d, %d; want %d", m, err, n)
		}
		rest = after
	}
	if rest != "" {
		t.Errorf("%x is left", rest)
	}
}

func TestEachNumberHasOneEncoding(t *testing.T) {
	for i := range 1 << 16 {
		for _, third := range []byte{0, 1, 2, 64, 127, 128, 129, 255} {
			b := string([]byte{byte(i), byte(i >> 8), third})
			n, rest, err := varint.Take(b)
			if err != api.OK {
				continue
			}
			if used := b[:len(b)-len(rest)]; varint.Put(n) != used {
				t.Errorf("Take(%x) = %d, whose Put is %x", used, n, varint.Put(n))
			}
		}
	}
}

func FuzzTake(f *testing.F) {
	for _, b := range []string{"", "\x00", "\xac\x02", "\x80\x00", "\x03ab", "\xff\xff\xff\xff\xff\xff\xff\xff\xff\x01", "\xff\xff\xff\xff\xff\xff\xff\xff\xff\x02"} {
		f.Add(b)
	}
	f.Fuzz(func(t *testing.T, b string) {
		checkTake(t, b)
		s, rest, err := varint.OfText(b)
		if err == api.OK && varint.Text(s)+rest != b {
			t.Errorf("OfText(%x) = %x, %x", b, s, rest)
		}
		if err != api.OK && (s != "" || rest != "") {
			t.Errorf("OfText(%x) = %x, %x beside error %d", b, s, rest, err)
		}
	})
}
