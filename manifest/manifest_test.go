package manifest_test

import (
	"cmp"
	"encoding/binary"
	"fmt"
	"hash/crc32"
	"maps"
	"math"
	"math/bits"
	"math/rand/v2"
	"slices"
	"strings"
	"testing"

	"thwart/api"
	"thwart/manifest"
)

// plainNumber encodes a number as chapter 1 has it.
func plainNumber(n uint64) string {
	return string(binary.AppendUvarint(nil, n))
}

// plainNumbers is the encodings one behind the other.
func plainNumbers(l ...uint64) string {
	var b strings.Builder
	for _, n := range l {
		b.WriteString(plainNumber(n))
	}
	return b.String()
}

// plainSum is the checksum of b, as chapter 2 has it.
func plainSum(b string) uint32 {
	return crc32.Checksum([]byte(b), crc32.MakeTable(crc32.Castagnoli))
}

// plainSeal puts the checksum of b ahead of it.
func plainSeal(b string) string {
	return string(binary.LittleEndian.AppendUint32(nil, plainSum(b))) + b
}

// within tells whether n is one of least to most.
func within(n, least, most int) bool {
	return n >= least && n <= most
}

// plainRight follows the chapter's definition of a valid manifest.
func plainRight(m manifest.Manifest) bool {
	rising := true
	for i := range m.Segs {
		rising = rising && (i == 0 || m.Segs[i].N > m.Segs[i-1].N)
	}
	off := slices.ContainsFunc(m.Segs, func(s manifest.Seg) bool { return !within(s.N, 0, 999999) || !within(s.Size, 0, 1<<20) })
	return within(m.Version, 1, 999999) && len(m.Segs) <= 200 && rising && !off
}

// plainContents follows the chapter's definition of the encoding, also of manifests that are not valid.
func plainContents(m manifest.Manifest) string {
	b := plainNumbers(uint64(m.Version), uint64(len(m.Segs)))
	for _, s := range m.Segs {
		b += plainNumbers(uint64(s.N), uint64(s.Size), uint64(s.Sum))
	}
	return b
}

// plainAll takes apart bytes that are numbers, each in the least bytes that it can have, and nothing else.
func plainAll(b string) ([]uint64, bool) {
	l := []uint64{}
	for b != "" {
		n, size := binary.Uvarint([]byte(b[:min(len(b), 10)]))
		if size <= 0 || size != max(1, (bits.Len64(n)+6)/7) {
			return nil, false
		}
		l, b = append(l, n), b[size:]
	}
	return l, true
}

// plainRead follows the words of Read: the numbers first, then what they can be.
func plainRead(b string) (manifest.Manifest, api.Errno) {
	if len(b) < 4 || plainSeal(b[4:]) != b {
		return manifest.Manifest{}, api.ErrSum
	}
	l, ok := plainAll(b[4:])
	if !ok || len(l) < 2 || len(l) > 602 || len(l)%3 != 2 || l[1] != uint64(len(l)/3) || slices.Max(l) > math.MaxUint32 {
		return manifest.Manifest{}, api.ErrForm
	}
	m := manifest.Manifest{Version: int(l[0])}
	for s := range slices.Chunk(l[2:], 3) {
		m.Segs = append(m.Segs, manifest.Seg{N: int(s[0]), Size: int(s[1]), Sum: uint32(s[2])})
	}
	if !plainRight(m) {
		return manifest.Manifest{}, api.ErrForm
	}
	return m, api.OK
}

// plainName is the first letter and six digits, if the number is one of least to 999999.
func plainName(letter string, n, least int) string {
	if !within(n, least, 999999) {
		return ""
	}
	return fmt.Sprintf("%s%06d", letter, n)
}

// plainVersion follows the words of Version, character by character.
func plainVersion(name string) (int, bool) {
	if len(name) != 7 || name[0] != 'm' || strings.Trim(name[1:], "0123456789") != "" || name == "m000000" {
		return 0, false
	}
	version := 0
	fmt.Sscanf(name[1:], "%d", &version)
	return version, true
}

// same tells whether manifests are equal; nil and empty Segs are.
func same(m, n manifest.Manifest) bool {
	return m.Version == n.Version && slices.Equal(m.Segs, n.Segs)
}

// clone shares nothing with m.
func clone(m manifest.Manifest) manifest.Manifest {
	return manifest.Manifest{Version: m.Version, Segs: slices.Clone(m.Segs)}
}

// checkBytes compares Right and Bytes, and Read of what these are, with the chapter's words; m stays as it is.
func checkBytes(t *testing.T, m manifest.Manifest) {
	t.Helper()
	before := clone(m)
	right := manifest.Right(m)
	b, err := manifest.Bytes(m)
	want, wantErr := "", api.ErrArg
	if plainRight(m) {
		want, wantErr = plainSeal(plainContents(m)), api.OK
	}
	if right != plainRight(m) || b != want || err != wantErr {
		t.Errorf("%+v: Right %t, Bytes %x, %d; want %x, %d", m, right, b, err, want, wantErr)
	}
	if !same(m, before) {
		t.Errorf("%+v has become %+v", before, m)
	}
	if plainRight(m) {
		checkManifest(t, want, m)
	}
}

// checkNotRight tells that m has no encoding.
func checkNotRight(t *testing.T, name string, m manifest.Manifest) {
	t.Helper()
	if b, err := manifest.Bytes(m); manifest.Right(m) || b != "" || err != api.ErrArg {
		t.Errorf("%s: Right %t, Bytes %x, %d", name, manifest.Right(m), b, err)
	}
	if plainRight(m) {
		t.Errorf("%s: plainRight errs", name)
	}
}

// checkManifest tells that Read of b is m.
func checkManifest(t *testing.T, b string, m manifest.Manifest) {
	t.Helper()
	if got, err := manifest.Read(b); !same(got, m) || err != api.OK {
		t.Errorf("Read(%x) = %+v, %d; want %+v", b, got, err, m)
	}
}

// checkRead compares Read with the chapter's words, and tells that what it returns has just these bytes.
func checkRead(t *testing.T, b string) {
	t.Helper()
	m, err := manifest.Read(b)
	want, wantErr := plainRead(b)
	if !same(m, want) || err != wantErr {
		t.Errorf("Read(%x) = %+v, %d; want %+v, %d", b, m, err, want, wantErr)
	}
	if again, wrong := manifest.Bytes(m); err == api.OK && (again != b || wrong != api.OK) {
		t.Errorf("Read(%x) = %+v, whose Bytes are %x, %d", b, m, again, wrong)
	}
}

// checkNoManifest tells that Read refuses b with that error.
func checkNoManifest(t *testing.T, name, b string, want api.Errno) {
	t.Helper()
	if m, err := manifest.Read(b); m.Version != 0 || len(m.Segs) != 0 || err != want {
		t.Errorf("%s: Read(%x) = %+v, %d; want error %d", name, b, m, err, want)
	}
	if _, err := plainRead(b); err != want {
		t.Errorf("%s: plainRead errs: %d", name, err)
	}
}

func checkVersion(t *testing.T, name string) {
	t.Helper()
	version, ok := manifest.Version(name)
	if want, wantOK := plainVersion(name); version != want || ok != wantOK {
		t.Errorf("Version(%q) = %d, %t; want %d, %t", name, version, ok, want, wantOK)
	}
}

// checkNoVersion tells that no version has this name.
func checkNoVersion(t *testing.T, name string) {
	t.Helper()
	if version, ok := manifest.Version(name); version != 0 || ok {
		t.Errorf("Version(%q) = %d, %t", name, version, ok)
	}
	if _, ok := plainVersion(name); ok {
		t.Errorf("plainVersion(%q) errs", name)
	}
}

// segs are valid, of many kinds, with rising numbers.
func segs(size int) []manifest.Seg {
	l := make([]manifest.Seg, size)
	for i := range l {
		l[i] = manifest.Seg{N: i*i*17 + i + 5, Size: i * 5279 % (1<<20 + 1), Sum: uint32(i) * 2654435761}
	}
	return l
}

// sized is a valid manifest, if it has not too many segments.
func sized(size int) manifest.Manifest {
	return manifest.Manifest{Version: size + 7, Segs: segs(size)}
}

// of is a manifest of these segments.
func of(l ...manifest.Seg) manifest.Manifest {
	return manifest.Manifest{Version: 7, Segs: l}
}

// numbered are segments with these numbers.
func numbered(l ...int) manifest.Manifest {
	m := manifest.Manifest{Version: 7}
	for _, n := range l {
		m.Segs = append(m.Segs, manifest.Seg{N: n, Size: 300, Sum: 1})
	}
	return m
}

// rising are all numbers from first on, size of them.
func rising(first, size int) []int {
	l := make([]int, size)
	for i := range l {
		l[i] = first + i
	}
	return l
}

// places are the first, a middle and the last one of size.
func places(size int) []int {
	return slices.Compact([]int{0, size / 2, size - 1})
}

// Numbers that are beyond the greatest one of every field; some would be right if only their lowest bits counted.
var beyond = []uint64{
	1 << 32, 1<<32 + 1, 1<<32 + 7, 1<<32 + 300, 1 << 33, 1 << 40, 1 << 62, math.MaxInt64, 1 << 63, 1<<63 + 1, 1<<63 + 7, math.MaxUint64 - 6, math.MaxUint64,
}

// P12.1: Right, Bytes

func TestBytesWrittenOut(t *testing.T) {
	for _, c := range []struct {
		m        manifest.Manifest
		contents string
	}{
		{manifest.Manifest{Version: 1}, "\x01\x00"},
		{manifest.Manifest{Version: 1, Segs: []manifest.Seg{}}, "\x01\x00"},
		{manifest.Manifest{Version: 127}, "\x7f\x00"},
		{manifest.Manifest{Version: 128}, "\x80\x01\x00"},
		{manifest.Manifest{Version: 999999}, "\xbf\x84\x3d\x00"},
		{of(manifest.Seg{}), "\x07\x01\x00\x00\x00"},
		{of(manifest.Seg{N: 1, Size: 2, Sum: 3}), "\x07\x01\x01\x02\x03"},
		{of(manifest.Seg{N: 3, Size: 300, Sum: 1}, manifest.Seg{N: 4}), "\x07\x02\x03\xac\x02\x01\x04\x00\x00"},
		{of(manifest.Seg{N: 999999, Size: 1 << 20, Sum: math.MaxUint32}), "\x07\x01\xbf\x84\x3d\x80\x80\x40\xff\xff\xff\xff\x0f"},
		{of(manifest.Seg{Sum: 1 << 31}), "\x07\x01\x00\x00\x80\x80\x80\x80\x08"},
	} {
		if b, err := manifest.Bytes(c.m); !manifest.Right(c.m) || b != plainSeal(c.contents) || err != api.OK {
			t.Errorf("Bytes(%+v) = %x, %d; want %x", c.m, b, err, plainSeal(c.contents))
		}
		checkManifest(t, plainSeal(c.contents), c.m)
	}
	if b, _ := manifest.Bytes(manifest.Manifest{Version: 1}); len(b) != 6 {
		t.Errorf("%d bytes", len(b))
	}
}

func TestTheZeroManifestIsNotRight(t *testing.T) {
	checkNotRight(t, "zero", manifest.Manifest{})
	checkNotRight(t, "zero with a segment", manifest.Manifest{Segs: segs(1)})
}

func TestBytesOfVersionsAtTheEdges(t *testing.T) {
	for _, l := range [][]manifest.Seg{nil, {}, segs(1), segs(200)} {
		for _, version := range []int{1, 2, 127, 128, 16383, 16384, 99999, 100000, 999998, 999999} {
			m := manifest.Manifest{Version: version, Segs: l}
			if !manifest.Right(m) {
				t.Errorf("version %d with %d segments is not right", version, len(l))
			}
			checkBytes(t, m)
		}
		for _, version := range []int{0, -1, -7, -999999, 1000000, 1000001, 1 << 31, 1<<32 + 7, math.MaxInt, math.MinInt, math.MinInt + 7} {
			checkNotRight(t, fmt.Sprintf("version %d with %d segments", version, len(l)), manifest.Manifest{Version: version, Segs: l})
		}
	}
}

func TestBytesOfManySizes(t *testing.T) {
	for size := range 201 {
		if !manifest.Right(sized(size)) {
			t.Errorf("%d segments are not right", size)
		}
		checkBytes(t, sized(size))
		checkBytes(t, numbered(rising(0, size)...))
		checkBytes(t, numbered(rising(1000000-size, size)...))
	}
	for _, size := range []int{201, 202, 240, 400, 200 + 256, 1 << 16, 1<<16 + 200} {
		checkNotRight(t, fmt.Sprintf("%d segments", size), numbered(rising(0, size)...))
	}
	checkNotRight(t, "201 segments", sized(201))
}

func TestBytesOfNumbersAtTheEdges(t *testing.T) {
	for _, n := range []int{0, 1, 127, 128, api.FirstFar - 1, api.FirstFar, 999998, 999999} {
		if !manifest.Right(numbered(n)) {
			t.Errorf("number %d is not right", n)
		}
		checkBytes(t, numbered(n))
	}
	checkBytes(t, numbered(0, 999999))
	for _, n := range []int{-1, -2, -7, 1000000, 1000001, 1 << 32, 1<<32 + 7, math.MaxInt, math.MinInt, math.MinInt + 7} {
		checkNotRight(t, fmt.Sprintf("number %d alone", n), numbered(n))
		for _, size := range []int{2, 3, 10, 200} {
			for _, at := range places(size) {
				l := rising(5, size)
				l[at] = n
				checkNotRight(t, fmt.Sprintf("number %d at place %d of %d", n, at, size), numbered(l...))
			}
		}
	}
	// These rise, so that only the range tells.
	checkNotRight(t, "first number -1", numbered(rising(-1, 200)...))
	checkNotRight(t, "last number 1000000", numbered(rising(1000000-199, 200)...))
	checkNotRight(t, "all numbers negative", numbered(rising(-300, 200)...))
	checkNotRight(t, "all numbers too great", numbered(rising(1000000, 200)...))
}

func TestBytesOfNumbersThatDoNotRise(t *testing.T) {
	for _, size := range []int{2, 3, 4, 10, 199, 200} {
		for _, at := range places(size - 1) {
			for _, fall := range []int{0, 1, 2, 1000} {
				l := rising(2000, size)
				for i := at + 1; i < size; i++ {
					l[i] -= fall + 1 // so the numbers behind rise as before
				}
				checkNotRight(t, fmt.Sprintf("pair %d of %d falls by %d", at, size, fall), numbered(l...))
				l = rising(2000, size)
				l[at+1] = l[at] - fall
				checkNotRight(t, fmt.Sprintf("number %d of %d falls by %d", at+1, size, fall), numbered(l...))
			}
		}
	}
	checkNotRight(t, "twice the least number", numbered(0, 0))
	checkNotRight(t, "twice the greatest number", numbered(999999, 999999))
	checkNotRight(t, "greatest and least number", numbered(999999, 0))
	checkNotRight(t, "equal segments", of(segs(1)[0], segs(1)[0]))
	checkNotRight(t, "equal numbers, other segments", of(manifest.Seg{N: 3, Size: 1, Sum: 1}, manifest.Seg{N: 3, Size: 2, Sum: 2}))
	checkNotRight(t, "the first number again", numbered(3, 4, 3))
	falling := rising(0, 200)
	slices.Reverse(falling)
	checkNotRight(t, "falling numbers", numbered(falling...))
}

func TestOnlyNumbersHaveToRise(t *testing.T) {
	checkBytes(t, of(manifest.Seg{N: 1, Size: 9, Sum: 9}, manifest.Seg{N: 2, Size: 9, Sum: 9}, manifest.Seg{N: 3, Size: 8, Sum: 8}))
	checkBytes(t, of(manifest.Seg{N: 1, Size: 1 << 20, Sum: math.MaxUint32}, manifest.Seg{N: 999999}))
}

func TestBytesOfSizesAtTheEdges(t *testing.T) {
	for _, count := range []int{1, 2, 3, 200} {
		for _, at := range places(count) {
			for _, size := range []int{0, 1, 127, 128, 1<<20 - 1, 1 << 20} {
				m := sized(count)
				m.Segs[at].Size = size
				if !manifest.Right(m) {
					t.Errorf("size %d at place %d of %d is not right", size, at, count)
				}
				checkBytes(t, m)
			}
			for _, size := range []int{-1, -300, 1<<20 + 1, 1 << 21, 1 << 32, 1<<32 + 300, math.MaxInt, math.MinInt, math.MinInt + 300} {
				m := sized(count)
				m.Segs[at].Size = size
				checkNotRight(t, fmt.Sprintf("size %d at place %d of %d", size, at, count), m)
			}
		}
	}
}

func TestBytesOfAllSums(t *testing.T) {
	for _, count := range []int{1, 2, 3, 200} {
		for _, at := range places(count) {
			for _, sum := range []uint32{0, 1, 127, 128, 1 << 20, 1 << 31, math.MaxInt32, math.MaxUint32 - 1, math.MaxUint32} {
				m := sized(count)
				m.Segs[at].Sum = sum
				if !manifest.Right(m) {
					t.Errorf("sum %d at place %d of %d is not right", sum, at, count)
				}
				checkBytes(t, m)
			}
		}
	}
}

func TestBytesOfTheGreatestManifest(t *testing.T) {
	m := manifest.Manifest{Version: 999999}
	for n := 999800; n <= 999999; n++ {
		m.Segs = append(m.Segs, manifest.Seg{N: n, Size: 1 << 20, Sum: math.MaxUint32})
	}
	checkBytes(t, m)
	if b, err := manifest.Bytes(m); len(b) != 4+3+2+200*11 || err != api.OK {
		t.Errorf("%d bytes, %d", len(b), err)
	}
}

func TestBytesOfAllEdgesTogether(t *testing.T) {
	for _, version := range []int{-1, 0, 1, 999999, 1000000} {
		for _, n := range []int{-1, 0, 999999, 1000000} {
			for _, size := range []int{-1, 0, 1 << 20, 1<<20 + 1} {
				for _, sum := range []uint32{0, math.MaxUint32} {
					m := manifest.Manifest{Version: version, Segs: []manifest.Seg{{N: n, Size: size, Sum: sum}}}
					checkBytes(t, m)
					checkRead(t, plainSeal(plainContents(m)))
					m.Segs = append(m.Segs, manifest.Seg{N: 1})
					checkBytes(t, m)
					checkRead(t, plainSeal(plainContents(m)))
				}
			}
		}
	}
}

// P12.1: Read

func TestReadWithoutARightChecksum(t *testing.T) {
	contents := plainContents(sized(3))
	sealed := plainSeal(contents)
	turned := []byte(sealed[:4])
	slices.Reverse(turned)
	for _, c := range []struct{ name, b string }{
		{"nothing", ""},
		{"one byte", "\x00"},
		{"two bytes", "\x01\x00"},
		{"three bytes", "abc"},
		{"checksum without its last byte", sealed[:3]},
		{"checksum of nothing without its last byte", plainSeal("")[:3]},
		{"checksum alone", sealed[:4]},
		{"four bytes that are no checksum", "\x00\x00\x00\x01"},
		{"manifest without a checksum", contents},
		{"checksum of nothing", plainSeal("") + contents},
		{"checksum of another manifest", plainSeal(plainContents(sized(2)))[:4] + contents},
		{"checksum behind", contents + sealed[:4]},
		{"checksum with the highest byte first", string(turned) + contents},
		{"zero for a checksum", "\x00\x00\x00\x00" + contents},
		{"other checksum of 32 bits", string(binary.LittleEndian.AppendUint32(nil, crc32.ChecksumIEEE([]byte(contents)))) + contents},
		{"a byte behind", sealed + "\x00"},
		{"a byte ahead", "\x00" + sealed},
		{"wrong checksum of what is malformed", "\x01\x02\x03\x04\x80\x00"},
		{"wrong checksum of a manifest that is not valid", "\x01\x02\x03\x04\x00\x00"},
	} {
		checkNoManifest(t, c.name, c.b, api.ErrSum)
	}
}

func TestReadOfAllShortBytes(t *testing.T) {
	checkNoManifest(t, "no bytes", "", api.ErrSum)
	for i := range 256 {
		checkNoManifest(t, "one byte", string([]byte{byte(i)}), api.ErrSum)
		for j := range 256 {
			checkNoManifest(t, "two bytes", string([]byte{byte(i), byte(j)}), api.ErrSum)
			checkNoManifest(t, "three bytes", string([]byte{byte(i), byte(j), byte(i ^ 37*j)}), api.ErrSum)
		}
	}
}

func TestReadWithEveryBitTurned(t *testing.T) {
	for _, size := range []int{0, 1, 2, 30} {
		b, err := manifest.Bytes(sized(size))
		if err != api.OK {
			t.Fatal(err)
		}
		for bit := range 8 * len(b) {
			turned := []byte(b)
			turned[bit/8] ^= 1 << (bit % 8)
			checkNoManifest(t, "bit turned", string(turned), api.ErrSum)
			if bit >= 32 {
				checkRead(t, plainSeal(string(turned[4:]))) // another manifest, or none
			}
		}
	}
}

func TestReadOfARightChecksumAndOtherContents(t *testing.T) {
	ten := strings.Repeat("\x80", 10)
	more := strings.Repeat("\xff", 9) + "\x02"
	for _, c := range []struct{ name, contents string }{
		{"nothing", ""},
		{"no number of segments", "\x07"},
		{"a segment without its number", "\x07\x01"},
		{"a segment without its size", "\x07\x01\x03"},
		{"a segment without its sum", "\x07\x01\x03\x04"},
		{"two segments, the second without its number", "\x07\x02\x03\x04\x05"},
		{"two segments, the second without its size", "\x07\x02\x03\x04\x05\x04"},
		{"two segments, the second without its sum", "\x07\x02\x03\x04\x05\x04\x04"},
		{"200 segments said, and no more", "\x07\xc8\x01"},

		{"version that is cut", "\x80"},
		{"version that is cut, of ten bytes", ten},
		{"number of segments that is cut", "\x07\x80"},
		{"number that is cut", "\x07\x01\x83"},
		{"size that is cut", "\x07\x01\x03\x84"},
		{"sum that is cut", "\x07\x01\x03\x04\x85"},
		{"sum that is cut, of four bytes", "\x07\x01\x03\x04\xff\xff\xff\xff"},
		{"number behind a segment that is cut", "\x07\x02\x03\x04\x05\x84"},

		{"version with a needless byte", "\x87\x00\x00"},
		{"version 0 with a needless byte", "\x80\x00\x00"},
		{"version with two needless bytes", "\x87\x80\x00\x00"},
		{"number of segments with a needless byte", "\x07\x81\x00\x03\x04\x05"},
		{"no segments with a needless byte", "\x07\x80\x00"},
		{"number with a needless byte", "\x07\x01\x83\x00\x04\x05"},
		{"number 0 with a needless byte", "\x07\x01\x80\x00\x04\x05"},
		{"size with a needless byte", "\x07\x01\x03\x84\x00\x05"},
		{"sum with a needless byte", "\x07\x01\x03\x04\x85\x00"},
		{"sum of five bytes with a needless one", "\x07\x01\x03\x04\xff\xff\xff\xff\x8f\x00"},
		{"last sum with a needless byte", "\x07\x02\x03\x04\x05\x04\x04\x85\x00"},

		{"version of ten bytes without an end", ten + "\x00"},
		{"number of segments of ten bytes without an end", "\x07" + ten},
		{"number of ten bytes without an end", "\x07\x01" + ten + "\x04\x05"},
		{"size of ten bytes without an end", "\x07\x01\x03" + ten + "\x05"},
		{"sum of ten bytes without an end", "\x07\x01\x03\x04" + ten},
		{"version of more than 64 bits", more + "\x00"},
		{"number of segments of more than 64 bits", "\x07" + more},
		{"number of more than 64 bits", "\x07\x01" + more + "\x04\x05"},
		{"size of more than 64 bits", "\x07\x01\x03" + more + "\x05"},
		{"sum of more than 64 bits", "\x07\x01\x03\x04" + more},

		{"no segments and a zero byte", "\x07\x00\x00"},
		{"no segments and a one", "\x07\x00\x01"},
		{"no segments and a number that is cut", "\x07\x00\x80"},
		{"no segments, but one", "\x07\x00\x03\x04\x05"},
		{"one segment and a zero byte", "\x07\x01\x03\x04\x05\x00"},
		{"one segment and a number that is cut", "\x07\x01\x03\x04\x05\x80"},
		{"one segment, but two", "\x07\x01\x03\x04\x05\x04\x04\x05"},
		{"two segments, but one", "\x07\x02\x03\x04\x05"},
		{"the manifest twice", "\x07\x01\x03\x04\x05\x07\x01\x03\x04\x05"},
		{"a manifest within a manifest", plainSeal("\x07\x01\x03\x04\x05")},
		{"a manifest, and its checksum behind it", "\x07\x01\x03\x04\x05" + plainSeal("\x07\x01\x03\x04\x05")[:4]},

		{"version 0", "\x00\x00"},
		{"version 0 with a segment", "\x00\x01\x03\x04\x05"},
		{"version 1000000", plainNumbers(1000000, 0)},
		{"version 1000000 with a segment", plainNumbers(1000000, 1, 3, 4, 5)},
		{"201 segments", plainContents(numbered(rising(0, 201)...))},
		{"201 segments, but none", plainNumbers(7, 201)},
		{"201 segments, but 200", plainNumbers(7, 201) + plainContents(sized(200))[4:]},
		{"200 segments, but 201", plainNumbers(7, 200) + plainContents(sized(201))[4:]},
		{"number 1000000", plainNumbers(7, 1, 1000000, 4, 5)},
		{"size of one too many", plainNumbers(7, 1, 3, 1<<20+1, 5)},
		{"sum of one too many", plainNumbers(7, 1, 3, 4, 1<<32)},

		{"equal numbers", plainNumbers(7, 2, 3, 4, 5, 3, 4, 5)},
		{"equal numbers, other segments", plainNumbers(7, 2, 3, 4, 5, 3, 5, 6)},
		{"falling numbers", plainNumbers(7, 2, 3, 4, 5, 2, 4, 5)},
		{"number 0 behind number 0", plainNumbers(7, 2, 0, 4, 5, 0, 4, 5)},
		{"number 0 behind number 999999", plainNumbers(7, 2, 999999, 4, 5, 0, 4, 5)},
		{"numbers that rise and fall", plainNumbers(7, 3, 3, 4, 5, 5, 4, 5, 4, 4, 5)},
	} {
		checkNoManifest(t, c.name, plainSeal(c.contents), api.ErrForm)
	}
}

func TestReadOfNumbersBeyondEveryRange(t *testing.T) {
	for _, n := range beyond {
		checkNoManifest(t, "version alone", plainSeal(plainNumbers(n, 0)), api.ErrForm)
		checkNoManifest(t, "number of segments alone", plainSeal(plainNumbers(7, n)), api.ErrForm)
		for place := range 8 {
			l := []uint64{7, 2, 300, 300, 300, 301, 300, 300}
			checkManifest(t, plainSeal(plainNumbers(l...)), of(manifest.Seg{N: 300, Size: 300, Sum: 300}, manifest.Seg{N: 301, Size: 300, Sum: 300}))
			l[place] = n
			checkNoManifest(t, fmt.Sprintf("number %d", place), plainSeal(plainNumbers(l...)), api.ErrForm)
			l[place] += 2 // may run over to 1
			checkRead(t, plainSeal(plainNumbers(l...)))
		}
	}
}

func TestReadOfManifestsThatAreNotValid(t *testing.T) {
	for _, count := range []int{1, 2, 3, 200} {
		for _, at := range places(count) {
			for _, n := range []int{1000000, 1000001, 1 << 31, 1<<32 + 5, math.MaxInt, -1, math.MinInt} {
				m := sized(count)
				m.Segs[at].N = n
				checkNoManifest(t, "number", plainSeal(plainContents(m)), api.ErrForm)
			}
			for _, size := range []int{1<<20 + 1, 1 << 31, 1<<32 + 5, math.MaxInt, -1, math.MinInt} {
				m := sized(count)
				m.Segs[at].Size = size
				checkNoManifest(t, "size", plainSeal(plainContents(m)), api.ErrForm)
			}
		}
		for at := range count - 1 {
			m := sized(count)
			m.Segs[at+1].N = m.Segs[at].N
			checkNoManifest(t, "equal numbers", plainSeal(plainContents(m)), api.ErrForm)
			m = sized(count)
			m.Segs[at].N, m.Segs[at+1].N = m.Segs[at+1].N, m.Segs[at].N
			checkNoManifest(t, "falling numbers", plainSeal(plainContents(m)), api.ErrForm)
		}
	}
}

func TestReadOfAnotherNumberOfSegments(t *testing.T) {
	for _, count := range []int{0, 1, 2, 3, 10, 199, 200} {
		m := sized(count)
		behind := strings.TrimPrefix(plainContents(m), plainNumbers(uint64(m.Version), uint64(count)))
		for said := range uint64(260) {
			b := plainSeal(plainNumbers(uint64(m.Version), said) + behind)
			if said == uint64(count) {
				checkManifest(t, b, m)
			} else {
				checkNoManifest(t, fmt.Sprintf("%d segments, but %d", said, count), b, api.ErrForm)
			}
		}
	}
}

func TestNoBeginningOfAManifestIsRead(t *testing.T) {
	for _, size := range []int{0, 1, 2, 3, 30} {
		b, err := manifest.Bytes(sized(size))
		if err != api.OK {
			t.Fatal(err)
		}
		for cut := range len(b) {
			checkNoManifest(t, "beginning", b[:cut], api.ErrSum)
			if cut >= 4 {
				checkNoManifest(t, "beginning with a right checksum", plainSeal(b[4:cut]), api.ErrForm)
			}
		}
		for i := range 256 {
			checkNoManifest(t, "a byte behind", plainSeal(b[4:]+string([]byte{byte(i)})), api.ErrForm)
		}
	}
}

func TestReadOfShortContents(t *testing.T) {
	checkRead(t, plainSeal(""))
	for i := range 256 {
		checkRead(t, plainSeal(string([]byte{byte(i)})))
		for j := range 256 {
			b := string([]byte{byte(i), byte(j)})
			checkRead(t, plainSeal(b))
			checkRead(t, plainSeal(b+"\x03\x04\x05"))
			checkRead(t, plainSeal("\x07\x01"+b+"\x04\x05"))
			checkRead(t, plainSeal("\x07\x01\x03"+b+"\x05"))
			checkRead(t, plainSeal("\x07\x01\x03\x04"+b))
			checkRead(t, plainSeal("\x07\x02\x80\x01\x04\x05"+b+"\x04\x05"))
		}
	}
}

// P12.2

func TestNamesWrittenOut(t *testing.T) {
	for _, c := range []struct {
		n            int
		name, object string
	}{
		{7, "m000007", "o000007"},
		{0, "", "o000000"},
		{1, "m000001", "o000001"},
		{10, "m000010", "o000010"},
		{120, "m000120", "o000120"},
		{99999, "m099999", "o099999"},
		{100000, "m100000", "o100000"},
		{123456, "m123456", "o123456"},
		{500000, "m500000", "o500000"},
		{999999, "m999999", "o999999"},
		{1000000, "", ""},
		{1000001, "", ""},
		{-1, "", ""},
		{-7, "", ""},
		{-99999, "", ""},
		{-999999, "", ""},
		{1<<32 + 7, "", ""},
		{math.MaxInt, "", ""},
		{math.MinInt, "", ""},
		{math.MinInt + 7, "", ""},
	} {
		if name, object := manifest.Name(c.n), manifest.Object(c.n); name != c.name || object != c.object {
			t.Errorf("Name, Object of %d: %q, %q; want %q, %q", c.n, name, object, c.name, c.object)
		}
	}
}

func TestNamesOfAllNumbers(t *testing.T) {
	for n := -1000; n <= 1001000; n++ {
		name, object := plainName("m", n, 1), plainName("o", n, 0)
		if manifest.Name(n) != name || manifest.Object(n) != object {
			t.Fatalf("Name, Object of %d: %q, %q", n, manifest.Name(n), manifest.Object(n))
		}
		want := 0
		if name != "" {
			want = n
		}
		if version, ok := manifest.Version(name); version != want || ok != (name != "") {
			t.Fatalf("Version(%q) = %d, %t; want %d", name, version, ok, want)
		}
		if version, ok := manifest.Version(object); version != 0 || ok {
			t.Fatalf("Version(%q) = %d, %t", object, version, ok)
		}
	}
}

func TestVersionOfOtherNames(t *testing.T) {
	for _, name := range []string{
		"", "m", "0", "7", "m7", "m0", "m00007", "m0000007", "m00000007", "m1000000", "m0000000", "m9999999", "m10000000",
		"m000000", "000007", "0000007", "7000000", "m000007 ", " m000007", "m000007\x00", "m000007\n", "mm00007", "mm000007", "m000007m", "m00007m", "000007m",
		"M000007", "o000007", "s000007", "h000007", "n000007", "l000007", "\x00000007", "é000007", "é00007", "\u217f000007",
		"m+00007", "m-00007", "m+000007", "m-000007", "m00000+", "m00+007", "m7+0000", "m-99999", "m-00000", "m+00000",
		"m 00007", "m     7", "m7     ", "m00007 ", "m000 07", "m\t00007", "m\n00007", "m00007\n",
		"m00000a", "ma00000", "m0000a7", "m0x0007", "m0x7", "m0b0001", "m0o0007", "m00000f", "m0_0007", "m00_007", "m_00007", "m1e0005", "m0.0007", "m00007.", "m000,07",
		"m00000/", "m00000:", "m/00000", "m:00000", "m00000\xb7", "m00000\x00", "m0000\u0667", "m00000\u0667", "m\uff10\uff17", "m00000\uff17",
		"m18446744073709551617", "m9223372036854775808", "m4294967303", "m" + strings.Repeat("0", 1000) + "7", strings.Repeat("m", 1000) + "000007", strings.Repeat("9", 1000), "m" + strings.Repeat("9", 1000),
	} {
		checkNoVersion(t, name)
	}
}

func TestVersionWithEveryByteAtEveryPlace(t *testing.T) {
	for _, name := range []string{"m000007", "m000000", "m999999", "m100000", "m123456", "m000001"} {
		for at := range len(name) {
			for i := range 256 {
				b := []byte(name)
				b[at] = byte(i)
				checkVersion(t, string(b))
				checkVersion(t, string(slices.Insert([]byte(name), at, byte(i))))
			}
			checkNoVersion(t, name[:at])
			checkNoVersion(t, name[:at]+name[at+1:])
		}
		for i := range 256 {
			checkNoVersion(t, name+string([]byte{byte(i)}))
		}
	}
}

func TestOfBytes(t *testing.T) {
	for _, c := range []struct {
		n    int
		b    string
		want manifest.Seg
	}{
		{5, "123456789", manifest.Seg{N: 5, Size: 9, Sum: 0xe3069283}},
		{5, "", manifest.Seg{N: 5}},
		{0, "", manifest.Seg{}},
		{0, "\x00", manifest.Seg{Size: 1, Sum: plainSum("\x00")}},
		{1, "\x00\x00\x00\x00", manifest.Seg{N: 1, Size: 4, Sum: plainSum("\x00\x00\x00\x00")}},
		{2, "é\xff", manifest.Seg{N: 2, Size: 3, Sum: plainSum("é\xff")}},
	} {
		if s := manifest.Of(c.n, c.b); s != c.want {
			t.Errorf("Of(%d, %q) = %+v; want %+v", c.n, c.b, s, c.want)
		}
	}
	for _, size := range []int{1, 2, 127, 128, 255, 256, 1000, 1 << 16, 1<<20 - 1, 1 << 20, 1<<20 + 1, 3 << 20} {
		b := strings.Repeat("thwart\x00\xff", size/8+1)[:size]
		if s := manifest.Of(size, b); s != (manifest.Seg{N: size, Size: size, Sum: plainSum(b)}) {
			t.Errorf("Of %d bytes: %+v", size, s)
		}
	}
}

func TestOfLeavesTheNumberAsItIs(t *testing.T) {
	for _, n := range []int{0, 1, 7, 999999, 1000000, 1 << 32, math.MaxInt, -1, -7, math.MinInt} {
		if s := manifest.Of(n, "123456789"); s != (manifest.Seg{N: n, Size: 9, Sum: 0xe3069283}) {
			t.Errorf("Of(%d): %+v", n, s)
		}
	}
}

func TestOfGivesSegmentsOfAManifest(t *testing.T) {
	checkBytes(t, of(manifest.Of(0, ""), manifest.Of(999999, strings.Repeat("z", api.MostFile))))
	checkNotRight(t, "a byte too many", of(manifest.Of(0, strings.Repeat("z", api.MostFile+1))))
}

// P12.3

// drawn is a valid manifest, of numbers so near the edges that some are drawn again.
func drawn(r *rand.Rand) manifest.Manifest {
	numbers := map[int]int{}
	for range r.IntN(4) {
		numbers[pick(r, 0, 1, 2, 127, 128, r.IntN(1000000), 999999)]++
	}
	if r.IntN(20) == 0 {
		for range r.IntN(190) {
			numbers[r.IntN(1000000)]++
		}
	}
	m := manifest.Manifest{Version: pick(r, 1, 2, 127, 128, r.IntN(999999)+1, 999999)}
	for _, n := range slices.Sorted(maps.Keys(numbers)) {
		m.Segs = append(m.Segs, manifest.Seg{N: n, Size: pick(r, 0, 1, 127, 128, r.IntN(1<<20), 1<<20), Sum: uint32(pick(r, 0, 1, 127, 128, int(r.Uint32()), math.MaxUint32))})
	}
	return m
}

// pick is one of l.
func pick(r *rand.Rand, l ...int) int {
	return l[r.IntN(len(l))]
}

// shown is a text that only equal manifests have.
func shown(m manifest.Manifest) string {
	return fmt.Sprint(m.Version, len(m.Segs), m.Segs)
}

func TestReadReturnsWhatBytesEncoded(t *testing.T) {
	r := rand.New(rand.NewPCG(1, 12))
	bytesOf, manifestOf := map[string]string{}, map[string]string{}
	for range 30000 {
		m := drawn(r)
		checkBytes(t, m)
		b, err := manifest.Bytes(m)
		if other, ok := bytesOf[shown(m)]; ok && other != b || err != api.OK {
			t.Errorf("%+v has the bytes %x and %x, %d", m, b, other, err)
		}
		if other, ok := manifestOf[b]; ok && other != shown(m) {
			t.Errorf("%x are the bytes of %s and %s", b, shown(m), other)
		}
		bytesOf[shown(m)], manifestOf[b] = b, shown(m)
	}
	if len(bytesOf) < 10000 || len(bytesOf) == 30000 || len(bytesOf) != len(manifestOf) {
		t.Errorf("%d manifests, %d bytes", len(bytesOf), len(manifestOf))
	}
}

func TestManifestsThatDifferInOneFieldHaveOtherBytes(t *testing.T) {
	r := rand.New(rand.NewPCG(2, 12))
	for range 500 {
		m := drawn(r)
		b, _ := manifest.Bytes(m)
		for i := range m.Segs {
			for _, n := range []manifest.Seg{{N: 1}, {Size: 1}, {Sum: 1}, {N: -1}, {Size: -1}, {Sum: math.MaxUint32}, {Size: 1 << 7}, {Sum: 1 << 31}} {
				other := clone(m)
				other.Segs[i] = manifest.Seg{N: m.Segs[i].N + n.N, Size: m.Segs[i].Size + n.Size, Sum: m.Segs[i].Sum + n.Sum}
				checkOther(t, b, other)
			}
			checkOther(t, b, manifest.Manifest{Version: m.Version, Segs: slices.Delete(slices.Clone(m.Segs), i, i+1)})
		}
		for _, change := range []int{-1, 1, 127, 128} {
			checkOther(t, b, manifest.Manifest{Version: m.Version + change, Segs: m.Segs})
		}
		checkOther(t, b, manifest.Manifest{Version: m.Version, Segs: append(slices.Clone(m.Segs), manifest.Seg{N: 999999})})
	}
}

// checkOther tells that m, which differs from the one whose bytes b are, has other bytes, or none.
func checkOther(t *testing.T, b string, m manifest.Manifest) {
	t.Helper()
	checkBytes(t, m)
	if other, _ := manifest.Bytes(m); other == b {
		t.Errorf("%+v has the bytes of another manifest: %x", m, b)
	}
}

func TestReadOfDrawnNumbers(t *testing.T) {
	r := rand.New(rand.NewPCG(3, 12))
	read := 0
	for range 100000 {
		size := r.IntN(4)
		l := []uint64{uint64(r.IntN(4)), uint64(pick(r, size, size, size, r.IntN(5)))}
		for range 3*size + pick(r, 0, 0, 0, 0, -1, 1) {
			l = append(l, uint64(pick(r, len(l), len(l), len(l), len(l), r.IntN(20), 999999, 1000000, 1<<20, 1<<20+1, math.MaxUint32, 1<<32, math.MaxInt)))
		}
		b := plainSeal(plainNumbers(l...))
		checkRead(t, b)
		if _, err := manifest.Read(b); err == api.OK {
			read++
		}
	}
	if read < 5000 || read > 95000 {
		t.Errorf("%d are manifests", read)
	}
}

func TestReadOfDrawnBytes(t *testing.T) {
	r := rand.New(rand.NewPCG(4, 12))
	for range 100000 {
		b := make([]byte, r.IntN(12))
		for i := range b {
			b[i] = byte(pick(r, r.IntN(4), r.IntN(4), r.IntN(128), r.IntN(256)))
		}
		checkRead(t, string(b))
		checkRead(t, plainSeal(string(b)))
	}
}

func TestReadOfManifestsWithDrawnChanges(t *testing.T) {
	r := rand.New(rand.NewPCG(5, 12))
	for range 50000 {
		b, err := manifest.Bytes(drawn(r))
		if err != api.OK {
			t.Fatal(err)
		}
		changed := []byte(b[4:])
		for range r.IntN(3) {
			at := r.IntN(len(changed))
			switch r.IntN(4) {
			case 0:
				changed[at] = byte(r.IntN(256))
			case 1:
				changed = slices.Insert(changed, at, byte(pick(r, 0, 1, 128, r.IntN(256))))
			case 2:
				changed = append(changed, byte(r.IntN(256)))
			case 3:
				changed = slices.Delete(changed, at, min(len(changed), at+r.IntN(2)))
			}
		}
		checkRead(t, plainSeal(string(changed)))
		if string(changed) != b[4:] {
			checkRead(t, b[:4]+string(changed))
		}
	}
}

func TestNamesHaveTheOrderOfTheVersions(t *testing.T) {
	for version := 2; version <= 999999; version++ {
		if manifest.Name(version-1) >= manifest.Name(version) || manifest.Object(version-1) >= manifest.Object(version) {
			t.Fatalf("the names of %d and of the one before", version)
		}
	}
	r := rand.New(rand.NewPCG(6, 12))
	for range 100000 {
		v, w := r.IntN(999999)+1, r.IntN(999999)+1
		if strings.Compare(manifest.Name(v), manifest.Name(w)) != cmp.Compare(v, w) {
			t.Fatalf("the names of %d and %d", v, w)
		}
	}
}

// R3, R4

func TestResultsBelongToTheCaller(t *testing.T) {
	for _, size := range []int{1, 2, 200} {
		b, _ := manifest.Bytes(sized(size))
		first, _ := manifest.Read(b)
		second, _ := manifest.Read(b)
		clear(first.Segs)
		first.Segs = append(first.Segs[:0], manifest.Seg{N: 1, Size: 2, Sum: 3})
		if !same(second, sized(size)) {
			t.Errorf("another result of %d segments has changed: %+v", size, second)
		}
		checkManifest(t, b, sized(size))
	}
}

func TestArgumentsAreNotKept(t *testing.T) {
	m := sized(200)
	b, err := manifest.Bytes(m)
	clear(m.Segs)
	if b != plainSeal(plainContents(sized(200))) || err != api.OK {
		t.Error("the bytes have changed with the manifest")
	}
	checkManifest(t, b, sized(200))
	checkNotRight(t, "changed", m)
	checkBytes(t, sized(200))
}

func TestArgumentsBehindTheSegmentsAreLeft(t *testing.T) {
	l := segs(10)
	m := manifest.Manifest{Version: 1, Segs: l[:3]}
	checkBytes(t, m)
	if !slices.Equal(l, segs(10)) {
		t.Errorf("%v", l)
	}
}

func FuzzRead(f *testing.F) {
	for _, size := range []int{0, 1, 2, 20} {
		f.Add(plainContents(sized(size)))
	}
	for _, s := range []string{"", "\x07", "\x80", "\x07\x01\x83\x00\x04\x05", "\x07\x02\x03\x04\x05\x03\x04\x05"} {
		f.Add(s)
	}
	f.Fuzz(func(t *testing.T, contents string) {
		checkRead(t, contents)
		checkRead(t, plainSeal(contents))
		checkVersion(t, contents)
	})
}
