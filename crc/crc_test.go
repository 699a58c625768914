package crc_test

import (
	"encoding/binary"
	"hash/crc32"
	"math"
	"strings"
	"testing"

	"thwart/crc"
)

// plainStep follows the chapter's definition of a step.
func plainStep(n uint32) uint32 {
	half := n / 2
	if n%2 != 0 {
		half ^= 0x82f63b78
	}
	return half
}

// plainMore follows the words of P2.1, step by step.
func plainMore(sum uint32, b string) uint32 {
	c := sum ^ 0xffffffff
	for _, x := range []byte(b) {
		c ^= uint32(x)
		for range 8 {
			c = plainStep(c)
		}
	}
	return c ^ 0xffffffff
}

// allBytes has every value of a byte once, in order.
func allBytes() string {
	b := []byte{}
	for i := range 256 {
		b = append(b, byte(i))
	}
	return string(b)
}

// mixed is size bytes that look random, but are the same in each run.
func mixed(size int, seed uint64) string {
	b := make([]byte, size)
	for i := range b {
		seed = seed*6364136223846793005 + 1442695040888963407
		b[i] = byte(seed >> 56)
	}
	return string(b)
}

// texts are strings of many lengths and kinds, the empty one and single bytes of every value among them.
func texts() []string {
	l := []string{"", "a", "abc", "123456789", "\x00\x00\x00\x00", "\xff\xff\xff\xff", "é", allBytes(), strings.Repeat(allBytes(), 5)}
	for i := range 256 {
		l = append(l, string([]byte{byte(i)}))
	}
	for size := range 70 {
		l = append(l, mixed(size, uint64(size)), strings.Repeat("\x00", size), strings.Repeat("\xff", size))
	}
	return append(l, mixed(4096, 1), mixed(100001, 2))
}

// sums are numbers to continue from: the edges, each single bit, and some between.
func sums() []uint32 {
	l := []uint32{0, 1, 0xe3069283, 0x82f63b78, 0x7fffffff, 0x80000000, math.MaxUint32 - 1, math.MaxUint32, 0xdeadbeef}
	for i := range 32 {
		l = append(l, 1<<i, ^(uint32(1) << i))
	}
	return l
}

// P2.1

func TestSumExamples(t *testing.T) {
	ascending, descending := allBytes()[:32], []byte(allBytes()[:32])
	for i := range descending {
		descending[i] = byte(31 - i)
	}
	for _, c := range []struct {
		b    string
		want uint32
	}{
		{"123456789", 0xe3069283},
		{"", 0},
		{"a", 0xc1d04330},
		{"\x00", 0x527d5351},
		{"\xff", 0xff000000},
		{strings.Repeat("\x00", 32), 0x8a9136aa},
		{strings.Repeat("\xff", 32), 0x62a8ab43},
		{ascending, 0x46dd794e},
		{string(descending), 0x113fdb5c},
	} {
		if got := crc.Sum(c.b); got != c.want {
			t.Errorf("Sum(%x) = %08x, want %08x", c.b, got, c.want)
		}
	}
}

func TestSumFollowsTheSteps(t *testing.T) {
	table := crc32.MakeTable(crc32.Castagnoli)
	for _, b := range texts() {
		got := crc.Sum(b)
		if got != plainMore(0, b) || got != crc.More(0, b) || got != crc32.Checksum([]byte(b), table) {
			t.Errorf("Sum of %d bytes = %08x, want %08x", len(b), got, plainMore(0, b))
		}
	}
}

func TestMoreFollowsTheSteps(t *testing.T) {
	for _, sum := range sums() {
		for _, b := range texts() {
			if len(b) > 300 {
				continue
			}
			if got, want := crc.More(sum, b), plainMore(sum, b); got != want {
				t.Errorf("More(%08x, %x) = %08x, want %08x", sum, b, got, want)
			}
		}
	}
}

func TestMoreWithEveryByteOnEveryLowByte(t *testing.T) {
	for low := range 256 {
		sum := 0x5ac30f00 + uint32(low)
		for x := range 256 {
			b := string([]byte{byte(x)})
			if got, want := crc.More(sum, b), plainMore(sum, b); got != want {
				t.Fatalf("More(%08x, %x) = %08x, want %08x", sum, b, got, want)
			}
		}
	}
}

func TestMoreWithNoBytesChangesNothing(t *testing.T) {
	for _, sum := range sums() {
		if got := crc.More(sum, ""); got != sum {
			t.Errorf("More(%08x, nothing) = %08x", sum, got)
		}
	}
}

func TestCallsDoNotDependOnEarlierCalls(t *testing.T) {
	before := crc.Sum("123456789")
	crc.More(before, "something else")
	crc.Open("short")
	if after := crc.Sum("123456789"); after != before {
		t.Errorf("%08x, then %08x", before, after)
	}
}

// P2.2

// plainSeal follows the words of P2.2.
func plainSeal(b string) string {
	return string(binary.LittleEndian.AppendUint32(nil, plainMore(0, b))) + b
}

func TestSealExamples(t *testing.T) {
	for _, c := range []struct{ b, want string }{
		{"", "\x00\x00\x00\x00"},
		{"a", "\x30\x43\xd0\xc1a"},
		{"\xff", "\x00\x00\x00\xff\xff"},
		{"123456789", "\x83\x92\x06\xe3123456789"},
	} {
		if got := crc.Seal(c.b); got != c.want {
			t.Errorf("Seal(%x) = %x, want %x", c.b, got, c.want)
		}
	}
}

func TestSealPutsTheSumAhead(t *testing.T) {
	for _, b := range texts() {
		if crc.Seal(b) != plainSeal(b) {
			t.Errorf("Seal of %d bytes begins with %x", len(b), crc.Seal(b)[:4])
		}
	}
}

// refused checks that Open returns nothing beside false.
func refused(t *testing.T, b, why string) {
	t.Helper()
	if contents, ok := crc.Open(b); ok || contents != "" {
		t.Errorf("Open(%x) = %x, %v: %s", b[:min(len(b), 40)], contents[:min(len(contents), 40)], ok, why)
	}
}

func TestOpenOfFewerThanFourBytes(t *testing.T) {
	refused(t, "", "no bytes")
	for x := range 256 {
		c := string([]byte{byte(x)})
		for size := 1; size < 4; size++ {
			refused(t, strings.Repeat(c, size), "too few bytes")
		}
	}
	for size := range 4 {
		refused(t, crc.Seal("123456789")[:size], "a piece of a checksum")
		refused(t, crc.Seal("")[:size], "a piece of the checksum of nothing")
	}
}

func TestOpenOfFourBytes(t *testing.T) {
	if contents, ok := crc.Open("\x00\x00\x00\x00"); contents != "" || !ok {
		t.Errorf("the checksum of nothing: %x, %v", contents, ok)
	}
	for i := range 4 {
		for x := 1; x < 256; x++ {
			b := []byte{0, 0, 0, 0}
			b[i] = byte(x)
			refused(t, string(b), "not the checksum of nothing")
		}
	}
	refused(t, "\xff\xff\xff\xff", "not the checksum of nothing")
	refused(t, "1234", "not the checksum of nothing")
}

func TestOpenOfAWrongCheck(t *testing.T) {
	for _, b := range texts() {
		sealed := crc.Seal(b)
		for bit := range 32 {
			changed := []byte(sealed)
			changed[bit/8] ^= 1 << (bit % 8)
			refused(t, string(changed), "a bit of the checksum is changed")
		}
		sum := crc.Sum(b)
		refused(t, string(binary.LittleEndian.AppendUint32(nil, ^sum))+b, "the checksum is inverted")
		refused(t, string(binary.LittleEndian.AppendUint32(nil, sum+1))+b, "the checksum is one more")
		refused(t, string(binary.LittleEndian.AppendUint32(nil, sum-1))+b, "the checksum is one less")
	}
	for _, b := range []string{"a", "abc", "123456789", allBytes(), mixed(50, 9)} {
		sum := crc.Sum(b)
		refused(t, string(binary.BigEndian.AppendUint32(nil, sum))+b, "the highest byte is first")
		refused(t, b+crc.Seal(b)[:4], "the checksum is behind")
		refused(t, b, "there is no checksum")
		refused(t, string(binary.LittleEndian.AppendUint32(nil, crc32.ChecksumIEEE([]byte(b))))+b, "another polynomial")
	}
}

// plainOpen follows the words of P2.2.
func plainOpen(b string) (string, bool) {
	if len(b) < 4 || binary.LittleEndian.Uint32([]byte(b)) != plainMore(0, b[4:]) {
		return "", false
	}
	return b[4:], true
}

func TestOpenAcceptsRightChecksOnly(t *testing.T) {
	for _, b := range texts() {
		for _, s := range []string{b, plainSeal(b), plainSeal(b) + "\x00", "\x00" + plainSeal(b), plainSeal(plainSeal(b))} {
			contents, ok := crc.Open(s)
			if want, wantOK := plainOpen(s); contents != want || ok != wantOK {
				t.Errorf("Open of %d bytes: %d bytes, %v; want %d, %v", len(s), len(contents), ok, len(want), wantOK)
			}
		}
	}
}

// P2.3

func TestMoreContinuesASum(t *testing.T) {
	for _, b := range []string{"", "a", "123456789", allBytes(), mixed(600, 3), strings.Repeat("\x00", 20)} {
		for cut := range len(b) + 1 {
			if got, want := crc.More(crc.Sum(b[:cut]), b[cut:]), crc.Sum(b); got != want {
				t.Errorf("%d of %d bytes first: %08x, want %08x", cut, len(b), got, want)
			}
		}
		sum := uint32(0)
		for i := range len(b) {
			sum = crc.More(sum, b[i:i+1])
		}
		if sum != crc.Sum(b) {
			t.Errorf("%d bytes one by one: %08x, want %08x", len(b), sum, crc.Sum(b))
		}
	}
}

func TestMoreContinuesMoreOfAnySum(t *testing.T) {
	b := mixed(30, 4)
	for _, sum := range sums() {
		for cut := range len(b) + 1 {
			if got, want := crc.More(crc.More(sum, b[:cut]), b[cut:]), crc.More(sum, b); got != want {
				t.Errorf("from %08x, %d bytes first: %08x, want %08x", sum, cut, got, want)
			}
		}
	}
}

func TestOpenReturnsWhatWasSealed(t *testing.T) {
	for _, b := range texts() {
		if contents, ok := crc.Open(crc.Seal(b)); contents != b || !ok {
			t.Errorf("%d bytes were sealed: %d, %v", len(b), len(contents), ok)
		}
		contents, ok := crc.Open(crc.Seal(crc.Seal(b)))
		if contents != crc.Seal(b) || !ok {
			t.Errorf("%d bytes were sealed twice: %d, %v", len(b), len(contents), ok)
		}
	}
}

// changeAt xors the contents of a sealed string with the bytes of by, from the place at on, and checks that Open refuses them.
func changeAt(t *testing.T, sealed string, at int, by string) {
	t.Helper()
	b := []byte(sealed)
	for i := range len(by) {
		b[4+at+i] ^= by[i]
	}
	refused(t, string(b), "contents are changed")
}

func TestEachChangeOfOneByteIsSeen(t *testing.T) {
	for _, b := range []string{"a", "\x00", "123456789", allBytes()[:40], strings.Repeat("\x00", 33), mixed(100, 5)} {
		sealed := crc.Seal(b)
		for at := range len(b) {
			for x := 1; x < 256; x++ {
				changeAt(t, sealed, at, string([]byte{byte(x)}))
			}
		}
	}
}

func TestEachChangeOfTwoBytesIsSeen(t *testing.T) {
	for _, b := range []string{"ab", "123456789"} {
		sealed := crc.Seal(b)
		for _, at := range []int{0, (len(b) - 2) / 2, len(b) - 2} {
			for x := 1; x < 1<<16; x++ {
				changeAt(t, sealed, at, string([]byte{byte(x), byte(x >> 8)}))
			}
		}
	}
}

// changes are patterns of one to four bytes, none of them only zeros: single bits, pairs of bits, the polynomial, and mixed ones.
func changes() []string {
	l := []string{}
	add := func(n uint32) {
		for size := 1; size <= 4; size++ {
			if b := binary.LittleEndian.AppendUint32(nil, n)[:size]; strings.Trim(string(b), "\x00") != "" {
				l = append(l, string(b))
			}
		}
	}
	for i := range 32 {
		for j := range i + 1 {
			add(1<<i | 1<<j)
		}
	}
	for _, n := range []uint32{0x82f63b78, 0x1edc6f41, 0x05ec76f1, math.MaxUint32, 0x01010101, 0x80808080, 0xff0000ff} {
		add(n)
		add(^n)
	}
	n := uint64(1)
	for range 200 {
		n = n*6364136223846793005 + 1442695040888963407
		add(uint32(n >> 32))
	}
	return l
}

func TestChangesOfOneToFourBytesAreSeen(t *testing.T) {
	for _, size := range []int{1, 2, 3, 4, 5, 8, 9, 64, 300} {
		for _, b := range []string{mixed(size, 6), strings.Repeat("\x00", size), strings.Repeat("\xff", size)} {
			sealed := crc.Seal(b)
			for _, by := range changes() {
				if last := size - len(by); last >= 0 {
					changeAt(t, sealed, 0, by)
					changeAt(t, sealed, last/2, by)
					changeAt(t, sealed, last, by)
				}
			}
		}
	}
}

func TestChangesAtEveryPlaceAreSeen(t *testing.T) {
	b := mixed(200, 7)
	sealed := crc.Seal(b)
	for at := range len(b) {
		for _, by := range []string{"\x01", "\x80", "\x78\x3b\xf6\x82", "\xff\xff\xff\xff", "\x01\x00\x00\x80", "\xff\x00\xff", "\x01\x01"} {
			if at+len(by) <= len(b) {
				changeAt(t, sealed, at, by)
			}
		}
	}
}

func FuzzOpen(f *testing.F) {
	for _, b := range []string{"", "abc", "\x00\x00\x00\x00", "\x83\x92\x06\xe3123456789", "\x83\x92\x06\xe312345678"} {
		f.Add(b, uint32(0), 0)
		f.Add(b, uint32(0x82f63b78), 2)
	}
	f.Fuzz(func(t *testing.T, b string, n uint32, place int) {
		if got, want := crc.More(n, b), plainMore(n, b); got != want {
			t.Errorf("More(%08x, %x) = %08x, want %08x", n, b, got, want)
		}
		contents, ok := crc.Open(b)
		if want, wantOK := plainOpen(b); contents != want || ok != wantOK {
			t.Errorf("Open(%x) = %x, %v; want %x, %v", b, contents, ok, want, wantOK)
		}
		if n == 0 || len(b) < 4 {
			return
		}
		changeAt(t, crc.Seal(b), int(uint(place)%uint(len(b)-3)), string(binary.LittleEndian.AppendUint32(nil, n)))
	})
}
