package hash_test

import (
	"hash/fnv"
	"math"
	"math/big"
	"math/rand/v2"
	"slices"
	"strings"
	"testing"

	"thwart/hash"
)

// big64 is a number that the chapter writes in decimal.
func big64(decimal string) *big.Int {
	v, ok := new(big.Int).SetString(decimal, 10)
	if !ok {
		panic(decimal)
	}
	return v
}

// The numbers of P9.1 and P9.2, and what all is modulo.
var (
	offset = big64("14695981039346656037")
	prime  = big64("1099511628211")
	first  = big64("18397679294719823053")
	second = big64("14181476777654086739")
	all    = new(big.Int).Lsh(big.NewInt(1), 64)
	two33  = new(big.Int).Lsh(big.NewInt(1), 33)
)

// times multiplies modulo 2^64.
func times(v, by *big.Int) *big.Int {
	p := new(big.Int).Mul(v, by)
	return p.Mod(p, all)
}

// folded is v xor (v / 2^33, rounded down).
func folded(v *big.Int) *big.Int {
	return new(big.Int).Xor(v, new(big.Int).Div(v, two33))
}

// plainSum follows the words of P9.1, with unbounded integers.
func plainSum(s string) uint64 {
	v := offset
	for _, x := range []byte(s) {
		v = times(new(big.Int).Xor(v, big.NewInt(int64(x))), prime)
	}
	return v.Uint64()
}

// plainMix follows the words of P9.2, with unbounded integers.
func plainMix(n uint64) uint64 {
	v := new(big.Int).SetUint64(n)
	v = folded(v)
	v = times(v, first)
	v = folded(v)
	v = times(v, second)
	v = folded(v)
	return v.Uint64()
}

// plainPlace follows the words of P9.3, with unbounded integers.
func plainPlace(s string, many int) int {
	for k := range 31 {
		if many == 1<<k {
			v := new(big.Int).SetUint64(plainMix(plainSum(s)))
			return int(v.Mod(v, big.NewInt(int64(many))).Int64())
		}
	}
	return 0
}

// inverse is the number that times n is 1 modulo 2^64.
func inverse(n *big.Int) uint64 {
	return new(big.Int).ModInverse(n, all).Uint64()
}

// unmixer returns the function that Mix undoes, the steps backwards: a fold by more than 32 bits is its own inverse.
func unmixer() func(n uint64) uint64 {
	unfirst, unsecond := inverse(first), inverse(second)
	return func(n uint64) uint64 {
		n ^= n / (1 << 33)
		n *= unsecond
		n ^= n / (1 << 33)
		n *= unfirst
		return n ^ n/(1<<33)
	}
}

// mixed is size bytes that look random, but are the same in each run.
func mixed(size int, seed uint64) string {
	r := rand.New(rand.NewPCG(seed, 9))
	b := make([]byte, size)
	for i := range b {
		b[i] = byte(r.Uint32())
	}
	return string(b)
}

// oneByte is each string of one byte.
func oneByte() []string {
	l := []string{}
	for i := range 256 {
		l = append(l, string([]byte{byte(i)}))
	}
	return l
}

// notUTF8 are strings that are no valid UTF-8: single bytes of longer characters, wrong ones, surrogates, and too long encodings.
func notUTF8() []string {
	return []string{"\x80", "\xc3", "\xff", "\xff\xfe", "a\xff", "\xffa", "\xc3\x28", "\xe2\x82", "\xed\xa0\x80", "\xc0\x80", "\xf4\x90\x80\x80", "k\x80\x80\x80v"}
}

// texts are strings of many lengths and kinds.
func texts() []string {
	l := []string{"", "a", "b", "ab", "ba", "foobar", "key", "é", "日本", "\x00\x00", "x\x00", "\x00x", strings.Join(oneByte(), "")}
	l = append(l, oneByte()...)
	l = append(l, notUTF8()...)
	for size := range 80 {
		l = append(l, mixed(size, uint64(size)), strings.Repeat("\x00", size), strings.Repeat("\xff", size), strings.Repeat("a", size))
	}
	return append(l, mixed(1000, 1), mixed(4097, 2))
}

// numbers are the edges of 33 and of 64 bits, each power of two with its neighbours, each pair of bits, their complements, and some between.
func numbers() []uint64 {
	l := []uint64{0, 1, 2, 3, 300, math.MaxUint64, first.Uint64(), second.Uint64(), offset.Uint64(), prime.Uint64(), 0x0123456789abcdef}
	for i := range 64 {
		p := uint64(1) << i
		l = append(l, p-1, p, p+1, -p, ^p)
		for j := range i {
			l = append(l, p|1<<j, ^(p | 1<<j))
		}
	}
	r := rand.New(rand.NewPCG(1, 9))
	for range 3000 {
		n := r.Uint64()
		l = append(l, n, n>>(n%64), n<<(n%64))
	}
	return l
}

// P9.1

func TestSumExamples(t *testing.T) {
	for _, c := range []struct {
		s    string
		want uint64
	}{
		{"a", 12638187200555641996},
		{"", 14695981039346656037},
		{"\x00", 0xaf63bd4c8601b7df},
		{"\x7f", 0xaf63f24c860211ee},
		{"\x80", 0xaf643d4c8602915f},
		{"\xff", 0xaf64724c8602eb6e},
		{"ab", 0x89c4407b545986a},
		{"ba", 0x8a63307b54dd00c},
		{"\x00\x00", 0x8328807b4eb6fed},
		{"foobar", 0x85944171f73967e8},
		{"é", 0xac21707b7181e01},
		{"\xff\xfe", 0xa99c807b6f645b0},
		{"\xed\xa0\x80", 0x5befa31b8ab04db8},
		{strings.Repeat("a", 1000), 0x3c835852fbac676d},
	} {
		if got := hash.Sum(c.s); got != c.want {
			t.Errorf("Sum(%x) = %d, want %d", c.s, got, c.want)
		}
	}
}

func TestSumFollowsTheWords(t *testing.T) {
	for _, s := range texts() {
		if got, want := hash.Sum(s), plainSum(s); got != want {
			t.Errorf("Sum(%x) = %d, want %d", s, got, want)
		}
	}
}

func TestSumOfTwoBytes(t *testing.T) {
	for _, a := range oneByte() {
		for _, b := range oneByte() {
			if got, want := hash.Sum(a+b), (hash.Sum(a)^uint64(b[0]))*1099511628211; got != want {
				t.Fatalf("Sum(%x) = %d, want %d", a+b, got, want)
			}
		}
	}
}

func TestSumGoesByBytesNotByCharacters(t *testing.T) {
	for _, s := range append(notUTF8(), "é", "日本", "\u0080\u00ff", "\ufffd") {
		v := uint64(14695981039346656037)
		for _, x := range []byte(s) {
			v = (v ^ uint64(x)) * 1099511628211
		}
		if got := hash.Sum(s); got != v {
			t.Errorf("Sum(%x) = %d, want %d", s, got, v)
		}
	}
	if hash.Sum("\xff") == hash.Sum("\ufffd") || hash.Sum("\x80") == hash.Sum("\xff") {
		t.Error("bytes that are no characters have the same sum")
	}
}

func TestSumOfLongStrings(t *testing.T) {
	for _, s := range []string{
		mixed(1<<16, 3), mixed(1<<20+1, 4), strings.Repeat("\x00", 1<<20), strings.Repeat("\xff", 1<<20), strings.Repeat("key", 1<<20),
	} {
		h := fnv.New64a()
		h.Write([]byte(s))
		if got := hash.Sum(s); got != h.Sum64() {
			t.Errorf("Sum of %d bytes = %d, want %d", len(s), got, h.Sum64())
		}
		if hash.Sum(s) == hash.Sum(s[:len(s)-1]) || hash.Sum(s) == hash.Sum(s[1:]) {
			t.Errorf("Sum of %d bytes does not depend on all of them", len(s))
		}
	}
}

func TestSumOfEachBeginning(t *testing.T) {
	s := mixed(300, 5)
	for size := range len(s) + 1 {
		if got, want := hash.Sum(s[:size]), plainSum(s[:size]); got != want {
			t.Errorf("Sum of %d bytes = %d, want %d", size, got, want)
		}
	}
}

// P9.2

func TestMixExamples(t *testing.T) {
	for _, c := range []struct{ n, want uint64 }{
		{0, 0},
		{1, 0xb456bcfc34c2cb2c},
		{2, 0x3abf2a20650683e7},
		{1 << 32, 0xba3a9e160a5f1419},
		{1<<33 - 1, 0xc08c4a56f3c4443d},
		{1 << 33, 0x6b80f8591e1145c3},
		{1<<33 + 1, 0x2c0100015f0a2277},
		{1 << 63, 0x8f780810af31a493},
		{math.MaxUint64, 0x64b5720b4b825f21},
		{0x123456789abcdef0, 0x18b8c062f6f42398},
	} {
		if got := hash.Mix(c.n); got != c.want {
			t.Errorf("Mix(%x) = %x, want %x", c.n, got, c.want)
		}
	}
}

func TestMixFollowsTheWords(t *testing.T) {
	for _, n := range numbers() {
		if got, want := hash.Mix(n), plainMix(n); got != want {
			t.Errorf("Mix(%x) = %x, want %x", n, got, want)
		}
	}
}

func TestMixOfSmallNumbers(t *testing.T) {
	for n := range uint64(1 << 14) {
		if got, want := hash.Mix(n), plainMix(n); got != want {
			t.Fatalf("Mix(%x) = %x, want %x", n, got, want)
		}
	}
}

// P9.3

// sizes are the sizes that a table can have.
func sizes() []int {
	l := []int{}
	for k := range 31 {
		l = append(l, 1<<k)
	}
	return l
}

// wrongSizes are numbers that are no power of 2 from 1 to 2^30.
func wrongSizes() []int {
	l := []int{0, -1, -2, -3, -4, 3, 5, 6, 7, 9, 10, 100, 1000, 1<<30 - 1, 1<<30 + 1, 1<<30 + 1<<29, 1 << 31, 1<<31 + 1, 1 << 32, math.MaxInt, math.MaxInt - 1, math.MinInt, math.MinInt + 1}
	for k := 2; k < 63; k++ {
		l = append(l, 1<<k-1, 1<<k+1, -(1 << k), 1<<k+1<<(k-1))
		if k > 30 {
			l = append(l, 1<<k)
		}
	}
	return l
}

func TestPlaceExamples(t *testing.T) {
	for _, c := range []struct {
		s          string
		many, want int
	}{
		{"", 1, 0}, {"", 2, 0}, {"", 4, 2}, {"", 8, 6}, {"", 256, 38}, {"", 1 << 16, 10534}, {"", 1 << 29, 446245158}, {"", 1 << 30, 983116070},
		{"a", 1, 0}, {"a", 2, 1}, {"a", 4, 3}, {"a", 8, 3}, {"a", 256, 91}, {"a", 1 << 16, 52827}, {"a", 1 << 29, 163499611}, {"a", 1 << 30, 700370523},
		{"k", 1, 0}, {"k", 2, 1}, {"k", 4, 1}, {"k", 8, 5}, {"k", 1 << 20, 983141}, {"k", 1 << 30, 901709925},
		{"\xff", 1, 0}, {"\xff", 2, 1}, {"\xff", 8, 7}, {"\xff", 256, 215}, {"\xff", 1 << 30, 1013557463},
	} {
		if got := hash.Place(c.s, c.many); got != c.want {
			t.Errorf("Place(%x, %d) = %d, want %d", c.s, c.many, got, c.want)
		}
	}
}

func TestPlaceFollowsTheWords(t *testing.T) {
	for _, s := range texts() {
		for _, many := range sizes() {
			got, want := hash.Place(s, many), plainPlace(s, many)
			if got != want || got != int(hash.Mix(hash.Sum(s))%uint64(many)) {
				t.Errorf("Place(%x, %d) = %d, want %d", s, many, got, want)
			}
		}
	}
}

func TestPlaceAmongOne(t *testing.T) {
	for _, s := range texts() {
		if got := hash.Place(s, 1); got != 0 {
			t.Errorf("Place(%x, 1) = %d", s, got)
		}
	}
}

func TestPlaceOfAWrongSize(t *testing.T) {
	for _, many := range wrongSizes() {
		for _, s := range texts() {
			if got := hash.Place(s, many); got != 0 {
				t.Errorf("Place(%x, %d) = %d", s, many, got)
			}
		}
	}
}

func TestPlaceOfAllSmallSizes(t *testing.T) {
	for many := -3000; many <= 3000; many++ {
		for _, s := range []string{"", "a", "k", "\xff", "key"} {
			if got, want := hash.Place(s, many), plainPlace(s, many); got != want {
				t.Errorf("Place(%x, %d) = %d, want %d", s, many, got, want)
			}
		}
	}
}

func TestEachPlaceOfASmallTableIsOneOfSomeString(t *testing.T) {
	for _, many := range []int{1, 2, 4, 8, 16, 256} {
		used := make([]int, many)
		for size := range 60 * many {
			used[hash.Place(mixed(6, uint64(size)), many)]++
		}
		if slices.Contains(used, 0) {
			t.Errorf("a table of %d has places without a string", many)
		}
	}
}

// P9.4

// distinct checks that no two of different numbers have the same Mix.
func distinct(t *testing.T, l []uint64) {
	t.Helper()
	slices.Sort(l)
	l = slices.Compact(l)
	mixes := make([]uint64, len(l))
	for i, n := range l {
		mixes[i] = hash.Mix(n)
	}
	slices.Sort(mixes)
	if left := len(slices.Compact(mixes)); left != len(l) {
		t.Errorf("%d numbers have %d Mixes", len(l), left)
	}
}

func TestManyNumbersHaveDifferentMixes(t *testing.T) {
	r := rand.New(rand.NewPCG(2, 9))
	consecutive, high, across, random := []uint64{}, []uint64{}, []uint64{}, []uint64{}
	for n := range uint64(1 << 19) {
		consecutive = append(consecutive, n, -n)
		high = append(high, n<<45, n<<45|1)
		across = append(across, n<<24, n<<24|1<<63)
		random = append(random, r.Uint64())
	}
	distinct(t, consecutive)
	distinct(t, high)
	distinct(t, across)
	distinct(t, random)
	distinct(t, numbers())
	distinct(t, slices.Concat(consecutive, high, across, random, numbers()))
}

func TestNumbersThatDifferInOneBitHaveDifferentMixes(t *testing.T) {
	for _, n := range numbers() {
		near := []uint64{n}
		for i := range 64 {
			if hash.Mix(n) == hash.Mix(n^1<<i) {
				t.Errorf("%x and %x have the same Mix", n, n^1<<i)
			}
			near = append(near, n^1<<i)
		}
		distinct(t, near)
	}
}

// An inverse on both sides leaves no two numbers with one Mix, and no number that is none.
func TestMixCanBeUndone(t *testing.T) {
	unmix := unmixer()
	l := numbers()
	r := rand.New(rand.NewPCG(3, 9))
	for range 1 << 18 {
		l = append(l, r.Uint64())
	}
	for _, n := range l {
		if got := unmix(hash.Mix(n)); got != n {
			t.Fatalf("Mix of %x is that of %x", n, got)
		}
		if got := hash.Mix(unmix(n)); got != n {
			t.Fatalf("Mix of %x is %x, want %x", unmix(n), got, n)
		}
	}
}

func TestAPlaceAmongTwiceAsMany(t *testing.T) {
	l := texts()
	for size := range 2000 {
		l = append(l, mixed(10, uint64(size)))
	}
	for k := range 30 {
		many := 1 << k
		stay, move := 0, 0
		for _, s := range l {
			before := hash.Place(s, many)
			if before < 0 || before >= many {
				t.Errorf("Place(%x, %d) = %d", s, many, before)
			}
			switch after := hash.Place(s, 2*many); after {
			case before:
				stay++
			case before + many:
				move++
			default:
				t.Errorf("Place(%x, %d) = %d, and Place(%x, %d) = %d", s, many, before, s, 2*many, after)
			}
		}
		if stay < len(l)/4 || move < len(l)/4 {
			t.Errorf("from %d to %d, %d strings stay, and %d move", many, 2*many, stay, move)
		}
	}
}

// R3, R4

func TestCallsDependOnTheirArgumentsAlone(t *testing.T) {
	ask := func() [4]uint64 {
		return [4]uint64{hash.Sum("a"), hash.Mix(1), uint64(hash.Place("a", 256)), hash.Sum("")}
	}
	before := ask()
	for _, s := range texts() {
		hash.Sum(s)
		hash.Place(s, len(s))
		hash.Mix(uint64(len(s)))
		if after := ask(); after != before {
			t.Fatalf("%d, and behind other calls %d", before, after)
		}
	}
}

func FuzzPlace(f *testing.F) {
	for _, s := range []string{"", "a", "foobar", "\xff\xfe", "\x80"} {
		for _, many := range []int{0, 1, 2, 3, -1, 1 << 29, 1 << 30, 1 << 31, math.MaxInt, math.MinInt} {
			f.Add(s, uint64(many), many)
		}
	}
	unmix := unmixer()
	f.Fuzz(func(t *testing.T, s string, n uint64, many int) {
		if got, want := hash.Sum(s), plainSum(s); got != want {
			t.Errorf("Sum(%x) = %d, want %d", s, got, want)
		}
		if got, want := hash.Mix(n), plainMix(n); got != want || unmix(got) != n {
			t.Errorf("Mix(%x) = %x, want %x", n, got, want)
		}
		for _, m := range []int{many, 1 << (n % 63)} {
			if got, want := hash.Place(s, m), plainPlace(s, m); got != want {
				t.Errorf("Place(%x, %d) = %d, want %d", s, m, got, want)
			}
		}
	})
}
