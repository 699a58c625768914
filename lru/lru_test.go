package lru_test

import (
	"fmt"
	"math"
	"math/rand/v2"
	"slices"
	"strings"
	"testing"

	"thwart/api"
	"thwart/lru"
)

// cache is what a cache and its plain counterpart can do.
type cache interface {
	Get(b api.Block) (string, bool)
	Put(b api.Block, s string)
	Drop(seg int) int
	Blocks() []api.Block
}

// plainBlock is a stored block of a plainCache, with the time of its last use.
type plainBlock struct {
	b    api.Block
	s    string
	used int
}

// plainCache follows the chapter's words sentence by sentence, with blocks in a list in no order, and a time that each call advances.
type plainCache struct {
	most int
	time int
	l    []plainBlock
}

func (p *plainCache) at(b api.Block) int {
	p.time++
	return slices.IndexFunc(p.l, func(x plainBlock) bool { return x.b == b })
}

func (p *plainCache) Get(b api.Block) (string, bool) {
	i := p.at(b)
	if i < 0 {
		return "", false
	}
	p.l[i].used = p.time
	return p.l[i].s, true
}

func (p *plainCache) Put(b api.Block, s string) {
	if i := p.at(b); i >= 0 {
		p.l[i].s, p.l[i].used = s, p.time
	} else {
		p.l = append(p.l, plainBlock{b, s, p.time})
	}
	if len(p.l) <= p.most {
		return
	}
	least := 0
	for i := range p.l {
		if p.l[i].used < p.l[least].used {
			least = i
		}
	}
	p.l[least] = p.l[len(p.l)-1]
	p.l = p.l[:len(p.l)-1]
}

func (p *plainCache) Drop(seg int) int {
	n := 0
	var others []plainBlock
	for _, x := range p.l {
		if x.b.Seg == seg {
			n++
		} else {
			others = append(others, x)
		}
	}
	p.l = others
	return n
}

func (p *plainCache) Blocks() []api.Block {
	l := slices.Clone(p.l)
	slices.SortFunc(l, func(x, y plainBlock) int { return y.used - x.used })
	var blocks []api.Block
	for _, x := range l {
		blocks = append(blocks, x.b)
	}
	return blocks
}

// block is the one of a segment with a number.
func block(seg, n int) api.Block {
	return api.Block{Seg: seg, N: n}
}

// row are the first many blocks of a segment, the first one first.
func row(seg, many int) []api.Block {
	var l []api.Block
	for n := range many {
		l = append(l, block(seg, n))
	}
	return l
}

// text is what the tests put into a block, unless they say otherwise.
func text(b api.Block) string {
	return fmt.Sprintf("%d/%d", b.Seg, b.N)
}

// made is an empty cache.
func made(t *testing.T, most int) *lru.Cache {
	t.Helper()
	c, err := lru.New(most)
	if c == nil || err != api.OK {
		t.Fatalf("New(%d): %v, %d", most, c, err)
	}
	return c
}

// filled has these blocks, put one by one: the last one is the most recently used one.
func filled(t *testing.T, most int, blocks ...api.Block) *lru.Cache {
	t.Helper()
	c := made(t, most)
	for _, b := range blocks {
		c.Put(b, text(b))
	}
	return c
}

// reversed are blocks in the other order.
func reversed(blocks []api.Block) []api.Block {
	l := slices.Clone(blocks)
	slices.Reverse(l)
	return l
}

// ahead are blocks with block i ahead of all others.
func ahead(blocks []api.Block, i int) []api.Block {
	l := []api.Block{blocks[i]}
	l = append(l, blocks[:i]...)
	return append(l, blocks[i+1:]...)
}

// wantBlocks complains if the stored blocks are others, or in another order.
func wantBlocks(t *testing.T, c cache, blocks ...api.Block) {
	t.Helper()
	if l := c.Blocks(); !slices.Equal(l, blocks) {
		t.Errorf("blocks %v, want %v", l, blocks)
	}
}

// wantGet complains if a block is not stored, or has other contents.
func wantGet(t *testing.T, c cache, b api.Block, s string) {
	t.Helper()
	if got, ok := c.Get(b); got != s || !ok {
		t.Errorf("Get(%v) = %.50q, %v; want %.50q", b, got, ok, s)
	}
}

// wantNot complains if a block is stored, or if to ask for it changes what is stored.
func wantNot(t *testing.T, c cache, blocks ...api.Block) {
	t.Helper()
	for _, b := range blocks {
		before := c.Blocks()
		if got, ok := c.Get(b); got != "" || ok {
			t.Errorf("Get(%v) = %.50q, %v", b, got, ok)
		}
		wantBlocks(t, c, before...)
	}
}

// wantContents complains if the stored blocks are others, in another order, or have other contents than their text. They are used, but their order stays.
func wantContents(t *testing.T, c cache, blocks ...api.Block) {
	t.Helper()
	wantBlocks(t, c, blocks...)
	for _, b := range reversed(blocks) {
		wantGet(t, c, b, text(b))
	}
	wantBlocks(t, c, blocks...)
}

// wantDrop complains if another number of blocks is dropped.
func wantDrop(t *testing.T, c cache, seg, many int) {
	t.Helper()
	if n := c.Drop(seg); n != many {
		t.Errorf("Drop(%d) = %d, want %d", seg, n, many)
	}
}

// told is all that can be seen of a cache. Its blocks are used, but their order stays.
func told(c cache) string {
	l := c.Blocks()
	b := fmt.Sprint(l)
	for _, x := range reversed(l) {
		s, ok := c.Get(x)
		b += fmt.Sprintf(", %v %q %v", x, s, ok)
	}
	return b + fmt.Sprint(c.Blocks())
}

// numbers are of any sign and size, and some of them have parts of their bits in common.
func numbers() []int {
	return []int{0, 1, -1, 2, -2, 63, 64, 65, 255, 256, 500000, 999999, 1 << 16, 1<<31 - 1, 1 << 31, -1 << 31, 1 << 32, 1<<32 + 1, -1 << 32, 1<<62 + 1, math.MaxInt - 1, math.MaxInt, math.MinInt, math.MinInt + 1}
}

// P11.1

func TestNewOfEachSize(t *testing.T) {
	for most := -200; most <= 200; most++ {
		c, err := lru.New(most)
		if most < 1 || most > 64 {
			if c != nil || err != api.ErrArg {
				t.Errorf("New(%d) = %v, %d", most, c, err)
			}
			continue
		}
		if c == nil || err != api.OK {
			t.Errorf("New(%d) = %v, %d", most, c, err)
		}
	}
}

func TestNewOfWrongSizes(t *testing.T) {
	sizes := []int{0, 65, -1, -2, -64, 66, 128, 129, 1000, math.MaxInt, math.MaxInt - 1, math.MinInt, math.MinInt + 1}
	for shift := 7; shift < 63; shift++ {
		// Some of their bits would be a right size.
		sizes = append(sizes, 1<<shift, 1<<shift+1, 1<<shift+64, -1<<shift, -1<<shift+1, -1<<shift+64)
	}
	for _, most := range sizes {
		if c, err := lru.New(most); c != nil || err != api.ErrArg {
			t.Errorf("New(%d) = %v, %d", most, c, err)
		}
	}
}

func TestANewCacheIsEmpty(t *testing.T) {
	for most := 1; most <= 64; most++ {
		c := made(t, most)
		wantBlocks(t, c)
		wantNot(t, c, block(0, 0), block(0, 1), block(1, 0), block(-1, -1), block(math.MaxInt, math.MinInt))
		for _, seg := range numbers() {
			wantDrop(t, c, seg, 0)
		}
		wantBlocks(t, c)
		c.Put(block(0, 0), "")
		wantBlocks(t, c, block(0, 0))
	}
}

func TestThereIsSpaceForSoManyBlocks(t *testing.T) {
	for most := 1; most <= 64; most++ {
		c := made(t, most)
		l := row(7, 2*most+1)
		for i, b := range l {
			c.Put(b, text(b))
			wantBlocks(t, c, reversed(l[max(0, i+1-most):i+1])...)
		}
		wantContents(t, c, reversed(l[most+1:])...)
		wantNot(t, c, l[:most+1]...)
	}
}

func TestBlocksChangesNothing(t *testing.T) {
	c := filled(t, 3, row(1, 3)...)
	for range 100 {
		wantBlocks(t, c, block(1, 2), block(1, 1), block(1, 0))
	}
	c.Put(block(1, 3), "")
	wantBlocks(t, c, block(1, 3), block(1, 2), block(1, 1))
}

func TestBlocksMayBeWrittenTo(t *testing.T) {
	for most := 1; most <= 64; most++ {
		for many := range most + 1 {
			blocks := row(1, many)
			c := filled(t, most, blocks...)
			l := c.Blocks()
			for i := range l {
				l[i] = block(9, 9)
			}
			l = append(l, block(8, 8))
			full := l[:cap(l)]
			for i := range full {
				full[i] = block(7, 7)
			}
			wantNot(t, c, block(9, 9), block(8, 8), block(7, 7))
			wantContents(t, c, reversed(blocks)...)
		}
	}
}

func TestBlocksStayAsTheyWere(t *testing.T) {
	c := filled(t, 3, row(1, 3)...)
	before := c.Blocks()
	want := slices.Clone(before)
	other := c.Blocks()
	c.Get(block(1, 0))
	c.Put(block(2, 0), "")
	c.Drop(1)
	c.Put(block(3, 0), "")
	other[0] = block(9, 9)
	if !slices.Equal(before, want) {
		t.Errorf("blocks %v, want %v", before, want)
	}
}

// P11.2

func TestExample(t *testing.T) {
	a, b, x := block(0, 0), block(0, 1), block(0, 2)
	c := made(t, 2)
	c.Put(a, "a")
	c.Put(b, "b")
	wantGet(t, c, a, "a")
	c.Put(x, "c")
	wantBlocks(t, c, x, a)
	wantNot(t, c, b)
	wantGet(t, c, a, "a")
	wantGet(t, c, x, "c")
}

func TestGetOfABlockThatWasNeverPut(t *testing.T) {
	for _, many := range []int{0, 1, 2, 3, 4} {
		blocks := row(5, many)
		c := filled(t, 4, blocks...)
		for n := many; n < 10; n++ {
			wantNot(t, c, block(5, n))
		}
		for n := range 10 {
			wantNot(t, c, block(4, n), block(6, n), block(n, 5), block(-5, n), block(5, -n-1))
		}
		wantContents(t, c, reversed(blocks)...)
	}
}

func TestGetOfARemovedBlock(t *testing.T) {
	c := filled(t, 2, row(5, 4)...)
	wantNot(t, c, block(5, 0), block(5, 1), block(5, 0))
	wantContents(t, c, block(5, 3), block(5, 2))
	// To ask for it was no use: the other ones are removed as if nobody had.
	c.Put(block(5, 4), text(block(5, 4)))
	wantContents(t, c, block(5, 4), block(5, 3))
	// It is stored anew, without its previous contents.
	c.Put(block(5, 0), "new")
	wantBlocks(t, c, block(5, 0), block(5, 4))
	wantGet(t, c, block(5, 0), "new")
}

func TestGetOfADroppedBlock(t *testing.T) {
	c := filled(t, 4, block(1, 0), block(2, 0), block(1, 1), block(2, 1))
	wantDrop(t, c, 1, 2)
	wantNot(t, c, block(1, 0), block(1, 1), block(1, 0))
	wantContents(t, c, block(2, 1), block(2, 0))
	c.Put(block(1, 0), "new")
	wantBlocks(t, c, block(1, 0), block(2, 1), block(2, 0))
	wantGet(t, c, block(1, 0), "new")
	wantNot(t, c, block(1, 1))
}

func TestGetOfEachPlaceInTheOrder(t *testing.T) {
	for _, most := range []int{1, 2, 3, 4, 5, 8, 31, 63, 64} {
		for _, many := range []int{1, 2, most / 2, most - 1, most} {
			if many < 1 || many > most {
				continue
			}
			blocks := reversed(row(3, many))
			for i, b := range blocks {
				c := filled(t, most, reversed(blocks)...)
				for range 3 {
					wantGet(t, c, b, text(b))
					wantBlocks(t, c, ahead(blocks, i)...)
				}
				wantContents(t, c, ahead(blocks, i)...)
			}
		}
	}
}

func TestGetsOneBehindTheOther(t *testing.T) {
	a, b, x, y := block(1, 0), block(1, 1), block(2, 0), block(2, 1)
	c := filled(t, 5, a, b, x, y)
	for _, step := range []struct {
		b    api.Block
		want []api.Block
	}{
		{y, []api.Block{y, x, b, a}}, // used last
		{a, []api.Block{a, y, x, b}}, // used least recently
		{y, []api.Block{y, a, x, b}},
		{x, []api.Block{x, y, a, b}}, // in the midst
		{a, []api.Block{a, x, y, b}},
		{b, []api.Block{b, a, x, y}},
		{b, []api.Block{b, a, x, y}},
	} {
		wantGet(t, c, step.b, text(step.b))
		wantBlocks(t, c, step.want...)
	}
}

func TestGetSavesABlock(t *testing.T) {
	for _, most := range []int{2, 3, 64} {
		blocks := row(1, most)
		for i := range blocks {
			c := filled(t, most, blocks...)
			wantGet(t, c, blocks[i], text(blocks[i]))
			rest := slices.Delete(slices.Clone(blocks), i, i+1)
			// All others are removed ahead of it, in the order in which they were put.
			for n, gone := range rest {
				c.Put(block(2, n), text(block(2, n)))
				wantNot(t, c, gone)
				if !slices.Contains(c.Blocks(), blocks[i]) || len(c.Blocks()) != most {
					t.Fatalf("block %d of %d: %v", i, most, c.Blocks())
				}
			}
			c.Put(block(3, 0), text(block(3, 0)))
			wantNot(t, c, blocks[i])
		}
	}
}

func TestPutOfAStoredBlock(t *testing.T) {
	for _, most := range []int{1, 2, 3, 4, 5, 63, 64} {
		for _, many := range []int{1, 2, most - 1, most} {
			if many < 1 || many > most {
				continue
			}
			blocks := reversed(row(3, many))
			for i, b := range blocks {
				c := filled(t, most, reversed(blocks)...)
				for _, s := range []string{"new", "", "newer", "newer", text(b)} {
					c.Put(b, s)
					wantBlocks(t, c, ahead(blocks, i)...)
					wantGet(t, c, b, s)
					wantBlocks(t, c, ahead(blocks, i)...)
				}
				wantContents(t, c, ahead(blocks, i)...)
			}
		}
	}
}

func TestPutOfAStoredBlockSavesIt(t *testing.T) {
	c := filled(t, 2, block(1, 0), block(1, 1))
	c.Put(block(1, 0), "new")
	c.Put(block(1, 2), "c")
	wantBlocks(t, c, block(1, 2), block(1, 0))
	wantNot(t, c, block(1, 1))
	wantGet(t, c, block(1, 0), "new")
}

func TestPutOfAStoredBlockManyTimes(t *testing.T) {
	for most := 1; most <= 64; most++ {
		blocks := row(1, most)
		c := filled(t, most, blocks...)
		for n := range 200 {
			i := n * 37 % most
			c.Put(blocks[i], fmt.Sprint(n))
			if l := c.Blocks(); len(l) != most || l[0] != blocks[i] {
				t.Fatalf("space for %d: %v", most, l)
			}
			wantGet(t, c, blocks[i], fmt.Sprint(n))
		}
	}
}

func TestPutIntoAFullCache(t *testing.T) {
	for _, most := range []int{1, 2, 3, 31, 32, 33, 63, 64} {
		blocks := row(1, most)
		c := filled(t, most, blocks...)
		order := reversed(blocks)
		for n := range 3 * most {
			b := block(2, n)
			c.Put(b, text(b))
			gone := order[most-1]
			order = append([]api.Block{b}, order[:most-1]...)
			wantContents(t, c, order...)
			wantNot(t, c, gone)
		}
	}
}

func TestSpaceForOne(t *testing.T) {
	c := made(t, 1)
	a, b := block(1, 0), block(1, 1)
	for n := range 10 {
		s := fmt.Sprint(n)
		c.Put(a, s)
		wantBlocks(t, c, a)
		wantGet(t, c, a, s)
		wantNot(t, c, b)
		c.Put(a, s+s)
		wantBlocks(t, c, a)
		wantGet(t, c, a, s+s)
		c.Put(b, s)
		wantBlocks(t, c, b)
		wantNot(t, c, a)
		wantGet(t, c, b, s)
	}
	wantDrop(t, c, 1, 1)
	wantBlocks(t, c)
	c.Put(a, "a")
	wantBlocks(t, c, a)
}

func TestContentsOfAllForms(t *testing.T) {
	l := []string{
		"", "x", "\x00", "\x00\x00", "\xff", "\xc3\x28", "\xed\xa0\x80", "\xf4\x90\x80\x80", "\x80\xbf", "\ufffd", "é", "日本", "a\x00b",
		strings.Repeat("x", 63), strings.Repeat("x", 64), strings.Repeat("x", 65), strings.Repeat("\xff\x00", 300), strings.Repeat("long", 1<<20),
	}
	c := made(t, 64)
	for i, s := range l {
		b := block(1, i)
		c.Put(b, s)
		wantGet(t, c, b, s)
		// In place of the others, too: none of them leaves something behind.
		c.Put(block(2, 0), s)
		wantGet(t, c, block(2, 0), s)
	}
	for i, s := range l {
		wantGet(t, c, block(1, i), s)
	}
	one := made(t, 1)
	for i := len(l) - 1; i >= 0; i-- {
		one.Put(block(1, i), l[i])
		wantGet(t, one, block(1, i), l[i])
	}
}

func TestEmptyContentsAreStored(t *testing.T) {
	c := made(t, 2)
	c.Put(block(0, 0), "")
	wantBlocks(t, c, block(0, 0))
	wantGet(t, c, block(0, 0), "")
	c.Put(block(0, 1), "")
	wantGet(t, c, block(0, 0), "")
	wantBlocks(t, c, block(0, 0), block(0, 1))
	c.Put(block(0, 2), "")
	wantBlocks(t, c, block(0, 2), block(0, 0))
	wantNot(t, c, block(0, 1))
	wantDrop(t, c, 0, 2)
	wantBlocks(t, c)
}

func TestBlocksThatDifferInOneField(t *testing.T) {
	c := filled(t, 4, block(1, 1), block(1, 2), block(2, 1), block(2, 2))
	wantContents(t, c, block(2, 2), block(2, 1), block(1, 2), block(1, 1))
	c.Put(block(1, 2), "new")
	wantGet(t, c, block(1, 1), "1/1")
	wantGet(t, c, block(2, 1), "2/1")
	wantGet(t, c, block(2, 2), "2/2")
	wantGet(t, c, block(1, 2), "new")
	wantNot(t, c, block(1, 3), block(3, 1), block(0, 1), block(1, 0))
	// By the segment alone, not by the number.
	wantDrop(t, c, 2, 2)
	wantBlocks(t, c, block(1, 2), block(1, 1))
	wantNot(t, c, block(2, 1), block(2, 2))
}

func TestFieldsOfAnySignAndSize(t *testing.T) {
	all := numbers()
	for _, x := range all {
		// Each number of one segment, and each segment with one number.
		inside, across := made(t, 64), made(t, 64)
		var in, over []api.Block
		for _, y := range all {
			in, over = append(in, block(x, y)), append(over, block(y, x))
			inside.Put(block(x, y), text(block(x, y)))
			across.Put(block(y, x), text(block(y, x)))
		}
		wantContents(t, inside, reversed(in)...)
		wantContents(t, across, reversed(over)...)
		for _, y := range all {
			if y != x {
				wantDrop(t, inside, y, 0)
			}
			wantDrop(t, across, y, 1)
			wantDrop(t, across, y, 0)
			over = over[1:]
			wantBlocks(t, across, reversed(over)...)
		}
		wantContents(t, inside, reversed(in)...)
		wantDrop(t, inside, x, len(all))
		wantBlocks(t, inside)
	}
}

func TestDropOfNone(t *testing.T) {
	c := filled(t, 4, block(1, 2), block(3, 4), block(1, 5))
	for _, seg := range append([]int{2, 4, 5, -3}, numbers()...) {
		if seg != 1 {
			wantDrop(t, c, seg, 0)
			wantBlocks(t, c, block(1, 5), block(3, 4), block(1, 2))
		}
	}
	wantContents(t, c, block(1, 5), block(3, 4), block(1, 2))
}

// TestDropOfEachSet has a segment's blocks at each set of places of the order, and others, of two segments, at the other places.
func TestDropOfEachSet(t *testing.T) {
	for many := range 9 {
		for set := range 1 << many {
			for _, most := range []int{max(many, 1), 10, 64} {
				c := made(t, most)
				var dropped, others []api.Block
				for n := range many {
					b := block(1+n%2*2, n)
					if set>>n&1 == 1 {
						b.Seg = 2
						dropped = append(dropped, b)
					} else {
						others = append(others, b)
					}
					c.Put(b, text(b))
				}
				wantDrop(t, c, 2, len(dropped))
				wantContents(t, c, reversed(others)...)
				wantNot(t, c, dropped...)
				wantDrop(t, c, 2, 0)
				wantContents(t, c, reversed(others)...)
			}
		}
	}
}

func TestDropOfAll(t *testing.T) {
	for most := 1; most <= 64; most++ {
		c := filled(t, most, row(6, 2*most)...)
		wantDrop(t, c, 6, most)
		wantBlocks(t, c)
		wantNot(t, c, row(6, 2*most)...)
		wantDrop(t, c, 6, 0)
		for _, b := range row(6, most) {
			c.Put(b, text(b))
		}
		wantContents(t, c, reversed(row(6, most))...)
	}
}

func TestDropDoesNotCountRemovedBlocks(t *testing.T) {
	c := filled(t, 2, block(1, 0), block(1, 1), block(1, 2), block(2, 0))
	wantDrop(t, c, 1, 1)
	wantBlocks(t, c, block(2, 0))
	wantDrop(t, c, 1, 0)
}

func TestDropUsesNoBlock(t *testing.T) {
	c := filled(t, 3, block(1, 0), block(2, 0), block(3, 0))
	wantDrop(t, c, 2, 1)
	c.Put(block(4, 0), text(block(4, 0)))
	c.Put(block(5, 0), text(block(5, 0)))
	wantContents(t, c, block(5, 0), block(4, 0), block(3, 0))
	wantNot(t, c, block(1, 0), block(2, 0))
}

func TestPutBehindADrop(t *testing.T) {
	for _, most := range []int{1, 2, 3, 4, 63, 64} {
		for dropped := range most + 1 {
			// The dropped ones lie among the others, from the least recently used one on.
			c := made(t, most)
			var others []api.Block
			for n := range most {
				b := block(1, n)
				if n*dropped/most != (n+1)*dropped/most {
					b.Seg = 2
				} else {
					others = append(others, b)
				}
				c.Put(b, text(b))
			}
			wantDrop(t, c, 2, dropped)
			order := reversed(others)
			// There is space for so many: none is removed for them.
			for n := range dropped {
				b := block(3, n)
				c.Put(b, text(b))
				order = append([]api.Block{b}, order...)
				wantBlocks(t, c, order...)
			}
			wantContents(t, c, order...)
			// And then the least recently used one alone.
			c.Put(block(4, 0), text(block(4, 0)))
			wantContents(t, c, append([]api.Block{block(4, 0)}, order[:most-1]...)...)
			wantNot(t, c, order[most-1])
		}
	}
}

func TestGetAndPutOfStoredBlocksBehindADrop(t *testing.T) {
	c := filled(t, 5, block(1, 0), block(2, 0), block(1, 1), block(2, 1), block(1, 2))
	wantDrop(t, c, 2, 2)
	wantGet(t, c, block(1, 0), "1/0")
	wantBlocks(t, c, block(1, 0), block(1, 2), block(1, 1))
	c.Put(block(1, 1), "new")
	wantBlocks(t, c, block(1, 1), block(1, 0), block(1, 2))
	wantGet(t, c, block(1, 1), "new")
	c.Put(block(2, 0), "back")
	wantBlocks(t, c, block(2, 0), block(1, 1), block(1, 0), block(1, 2))
	wantGet(t, c, block(2, 0), "back")
	wantDrop(t, c, 1, 3)
	wantBlocks(t, c, block(2, 0))
}

// P11.3

// history are the blocks that were used, the first use first: from it alone the theorem tells which are stored.
type history struct {
	most int
	uses []api.Block
}

// stored are the last most different blocks of the uses, the last one first.
func (h *history) stored() []api.Block {
	var l []api.Block
	for i := len(h.uses) - 1; i >= 0 && len(l) < h.most; i-- {
		if !slices.Contains(l, h.uses[i]) {
			l = append(l, h.uses[i])
		}
	}
	return l
}

// drop forgets the uses of a segment, and those of blocks that are not stored: a drop does not bring them back.
func (h *history) drop(seg int) {
	h.uses = slices.DeleteFunc(reversed(h.stored()), func(b api.Block) bool { return b.Seg == seg })
}

// step makes one call on a cache and on its plain counterpart, notes the use, and compares results and blocks.
func step(t *testing.T, c, p cache, h *history, what int, b api.Block, s string) {
	t.Helper()
	switch what {
	case 0, 1, 2:
		got, ok := c.Get(b)
		if want, is := p.Get(b); got != want || ok != is {
			t.Fatalf("Get(%v) = %q, %v; want %q, %v", b, got, ok, want, is)
		}
		if ok {
			h.uses = append(h.uses, b)
		}
	case 3, 4, 5:
		c.Put(b, s)
		p.Put(b, s)
		h.uses = append(h.uses, b)
	case 6:
		if got, want := c.Drop(b.Seg), p.Drop(b.Seg); got != want {
			t.Fatalf("Drop(%d) = %d, want %d", b.Seg, got, want)
		}
		h.drop(b.Seg)
	}
	l := c.Blocks()
	if want := p.Blocks(); !slices.Equal(l, want) {
		t.Fatalf("call %d of %v: blocks %v, want %v", what, b, l, want)
	}
	if want := h.stored(); !slices.Equal(l, want) {
		t.Fatalf("call %d of %v: blocks %v, but the most recently used ones are %v", what, b, l, want)
	}
}

// compare complains if two caches are different.
func compare(t *testing.T, c, p cache) {
	t.Helper()
	if got, want := told(c), told(p); got != want {
		t.Fatalf("got\n%s\nwant\n%s", got, want)
	}
}

func TestAllShortScripts(t *testing.T) {
	blocks := []api.Block{block(1, 0), block(1, 1), block(2, 0), block(2, 1)}
	calls := 2*len(blocks) + 2
	for most := 1; most <= 4; most++ {
		for script := range calls * calls * calls * calls * calls {
			c, p, h := made(t, most), &plainCache{most: most}, &history{most: most}
			for i, rest := 0, script; i < 5; i, rest = i+1, rest/calls {
				switch x := rest % calls; {
				case x < 4:
					step(t, c, p, h, 0, blocks[x], "")
				case x < 8:
					step(t, c, p, h, 3, blocks[x-4], string(rune('a'+i)))
				default:
					step(t, c, p, h, 6, block(x-7, 0), "")
				}
			}
			compare(t, c, p)
		}
	}
}

func TestDrawnScripts(t *testing.T) {
	r := rand.New(rand.NewPCG(1, 11))
	for most := 1; most <= 64; most++ {
		for run := range 12 {
			// From fewer blocks than there is space for to many more, in few segments and in many.
			segs, numbers := 1+r.IntN(1+most), 1+r.IntN(4+2*most/(1+run%4))
			drops := []int{6, 7, 7}[run%3]
			c, p, h := made(t, most), &plainCache{most: most}, &history{most: most}
			for i := range 250 {
				what := r.IntN(drops)
				if what == 6 && r.IntN(5) > 0 {
					what = 3
				}
				step(t, c, p, h, what, block(r.IntN(segs), r.IntN(numbers)), fmt.Sprint(i))
			}
			compare(t, c, p)
		}
	}
}

func TestDrawnScriptsOfAnyFields(t *testing.T) {
	r := rand.New(rand.NewPCG(2, 11))
	fields := numbers()
	drawn := func() int { return fields[r.IntN(len(fields))] }
	for range 200 {
		most := 1 + r.IntN(64)
		c, p, h := made(t, most), &plainCache{most: most}, &history{most: most}
		var l []api.Block
		for range 2 + r.IntN(100) {
			l = append(l, block(drawn(), drawn()))
		}
		for i := range 300 {
			step(t, c, p, h, r.IntN(7), l[r.IntN(len(l))], strings.Repeat(string([]byte{byte(r.IntN(256))}), i%70))
		}
		compare(t, c, p)
	}
}

func TestALongRun(t *testing.T) {
	c := made(t, 64)
	for n := range 300_000 {
		b := block(n%7, n)
		c.Put(b, text(b))
		// The oldest one that is stored is used, so that it lasts; and the next one goes in its place.
		if n%64 == 63 {
			l := c.Blocks()
			wantGet(t, c, l[63], text(l[63]))
			wantBlocks(t, c, ahead(l, 63)...)
		}
	}
	wantContents(t, c, c.Blocks()...)
	if n := len(c.Blocks()); n != 64 {
		t.Errorf("%d blocks", n)
	}
}

// R3, R4

func TestCachesShareNothing(t *testing.T) {
	a, b := filled(t, 4, row(1, 4)...), filled(t, 4, row(1, 4)...)
	before := told(b)
	a.Put(block(1, 0), "new")
	a.Put(block(2, 0), "c")
	a.Get(block(1, 2))
	if after := told(b); after != before {
		t.Errorf("got %s, want %s", after, before)
	}
	wantDrop(t, a, 1, 3)
	a.Put(block(1, 3), "d")
	if after := told(b); after != before {
		t.Errorf("got %s, want %s", after, before)
	}
	wantContents(t, b, reversed(row(1, 4))...)
	wantBlocks(t, made(t, 4))
	// Each has its own space.
	one, two := made(t, 1), made(t, 2)
	for _, x := range row(3, 3) {
		one.Put(x, text(x))
		two.Put(x, text(x))
	}
	wantContents(t, one, block(3, 2))
	wantContents(t, two, block(3, 2), block(3, 1))
}

func TestTheSameCallsHaveTheSameResults(t *testing.T) {
	run := func() string {
		c := made(t, 40)
		r := rand.New(rand.NewPCG(3, 11))
		b := ""
		for i := range 3000 {
			x := block(r.IntN(9), r.IntN(12))
			switch r.IntN(40) {
			case 0:
				b += fmt.Sprint(c.Drop(x.Seg), " ")
			case 1, 2, 3, 4, 5, 6, 7, 8, 9, 10:
				s, ok := c.Get(x)
				b += fmt.Sprint(s, ok, " ")
			default:
				c.Put(x, fmt.Sprint(i))
			}
		}
		return b + told(c)
	}
	first := run()
	for range 5 {
		if run() != first {
			t.Fatal("another result")
		}
	}
}

func FuzzScripts(f *testing.F) {
	f.Add(1, []byte("\x03a\x03b\x00a\x03c"))
	f.Add(2, []byte("\x03a\x03b\x00a\x03c\x06a\x03d\x03e"))
	f.Add(64, []byte("\x03\x00\x03\x10\x03\x20\x06\x00\x03\x30\x00\x10"))
	f.Fuzz(func(t *testing.T, most int, script []byte) {
		c, err := lru.New(most)
		if most < 1 || most > 64 {
			if c != nil || err != api.ErrArg {
				t.Fatalf("New(%d) = %v, %d", most, c, err)
			}
			return
		}
		p, h := &plainCache{most: most}, &history{most: most}
		for i := 0; i+1 < min(len(script), 600); i += 2 {
			b := block(int(script[i+1]>>5), int(int8(script[i+1]<<3)))
			step(t, c, p, h, int(script[i])%7, b, string(script[i:]))
		}
		compare(t, c, p)
	})
}
