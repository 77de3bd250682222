package ceil

import (
	"math/big"
	"math/rand"
	"slices"
	"testing"

	"camshaft/api"
)

const (
	top     = 1<<63 - 1
	bottom  = -1 << 63
	longest = 1 << 40
)

// use is a use of blocks, each with its length behind it.
func use(prio int, pairs ...int) Use {
	u := Use{Prio: prio}
	for k := 0; k < len(pairs); k += 2 {
		u.Blocks = append(u.Blocks, pairs[k])
		u.Lens = append(u.Lens, pairs[k+1])
	}
	return u
}

// plain is uses of seven blocks that are right; nobody has the block 3, and some have several.
func plain() []Use {
	return []Use{
		use(10, 0, 50, 1, 40, 6, 30),
		use(40, 2, 7),
		use(25, 1, 60, 4, 20),
		use(60, 4, 90, 5, 11),
		use(33),
		use(40, 0, 15, 2, 8, 5, 70),
		use(99, 5, 2),
	}
}

func deepCopy(l []Use) []Use {
	l = slices.Clone(l)
	for i := range l {
		l[i].Blocks, l[i].Lens = slices.Clone(l[i].Blocks), slices.Clone(l[i].Lens)
	}
	return l
}

func sameUses(a, b []Use) bool {
	return slices.EqualFunc(a, b, func(x, y Use) bool {
		return x.Prio == y.Prio && slices.Equal(x.Blocks, y.Blocks) && slices.Equal(x.Lens, y.Lens)
	})
}

// wantRight is the chapter's words again.
func wantRight(blocks int, l []Use) bool {
	right := blocks >= 0 && blocks <= 8 && len(l) <= 8
	for _, u := range l {
		right = right && u.Prio >= 1 && u.Prio <= 100 && len(u.Blocks) == len(u.Lens)
		for k, b := range u.Blocks {
			right = right && b >= 0 && b < blocks && (k == 0 || u.Blocks[k-1] < b)
		}
		for _, n := range u.Lens {
			right = right && n >= 0 && n <= 1<<40
		}
	}
	return right
}

// lenOf is how long a use has a block, and whether it has.
func lenOf(u Use, block int) (int, bool) {
	k := slices.Index(u.Blocks, block)
	if k < 0 {
		return 0, false
	}
	return u.Lens[k], true
}

// wantCeilings is P13.2's words again, of uses that are right.
func wantCeilings(blocks int, l []Use) []int {
	var ceilings []int
	for b := 0; b < blocks; b++ {
		of := []int{0}
		for _, u := range l {
			if _, has := lenOf(u, b); has {
				of = append(of, u.Prio)
			}
		}
		ceilings = append(ceilings, slices.Max(of))
	}
	return ceilings
}

// wantActive is P13.3's words again, over numbers without bounds.
func wantActive(prio, held int, ceilings []int) int {
	number := big.NewInt(int64(held))
	if held < 0 {
		number.Add(number, new(big.Int).Lsh(big.NewInt(1), 64))
	}
	of := []int{prio}
	for b := 0; b <= 63 && b < len(ceilings); b++ {
		if number.Bit(b) == 1 {
			of = append(of, ceilings[b])
		}
	}
	return slices.Max(of)
}

// wantWaits is P13.4's words again, of uses that are right.
func wantWaits(blocks int, l []Use) []int {
	ceilings := wantCeilings(blocks, l)
	var waits []int
	for _, own := range l {
		of := []int{0}
		for b, ceiling := range ceilings {
			for _, u := range l {
				if n, has := lenOf(u, b); has && u.Prio < own.Prio && ceiling >= own.Prio {
					of = append(of, n)
				}
			}
		}
		waits = append(waits, slices.Max(of))
	}
	return waits
}

// checkUses asks the three calls about uses, right or not, against the words.
func checkUses(t *testing.T, blocks int, l []Use) {
	t.Helper()
	if !wantRight(blocks, l) {
		checkWrong(t, blocks, l)
		return
	}
	if !Right(blocks, l) {
		t.Errorf("%v of %d blocks are right", l, blocks)
	}
	checkCeilings(t, blocks, l, wantCeilings(blocks, l)...)
	checkWaits(t, blocks, l, wantWaits(blocks, l)...)
}

func checkWrong(t *testing.T, blocks int, l []Use) {
	t.Helper()
	if Right(blocks, l) {
		t.Errorf("%v of %d blocks are not right", l, blocks)
	}
	checkCeilings(t, blocks, l)
	checkWaits(t, blocks, l)
}

func checkCeilings(t *testing.T, blocks int, l []Use, want ...int) {
	t.Helper()
	if c := Ceilings(blocks, l); !slices.Equal(c, want) {
		t.Errorf("Ceilings(%d, %v) = %v; want %v", blocks, l, c, want)
	}
}

func checkWaits(t *testing.T, blocks int, l []Use, want ...int) {
	t.Helper()
	if w := Waits(blocks, l); !slices.Equal(w, want) {
		t.Errorf("Waits(%d, %v) = %v; want %v", blocks, l, w, want)
	}
}

func checkActive(t *testing.T, want, prio, held int, ceilings ...int) {
	t.Helper()
	if n := Active(prio, held, ceilings); n != want {
		t.Errorf("Active(%d, %d, %v) = %d; want %d", prio, held, ceilings, n, want)
	}
}

// checkEach asks about plain uses that are changed at the first, a middle and the last one.
func checkEach(t *testing.T, right bool, change func(u *Use)) {
	t.Helper()
	for _, at := range []int{0, 3, 6} {
		l := plain()
		change(&l[at])
		if wantRight(7, l) != right {
			t.Fatalf("%v: the words say otherwise", l)
		}
		checkUses(t, 7, l)
		checkUses(t, 7, l[at:at+1])
	}
}

// rightBlocks is rows of blocks that rise and are there, of 7 blocks.
func rightBlocks() [][]int {
	return [][]int{nil, {}, {0}, {3}, {5}, {6}, {0, 1}, {0, 6}, {5, 6}, {2, 4}, {0, 3, 6}, {1, 2, 3, 4, 5}, {0, 1, 2, 3, 4, 5, 6}}
}

// wrongBlocks is rows of blocks that can't be, of 7 blocks: they stand twice, fall, or are not there.
func wrongBlocks() [][]int {
	return [][]int{
		{0, 0}, {6, 6}, {3, 3}, {0, 3, 3}, {3, 3, 6}, {0, 0, 1}, {0, 3, 6, 6}, {1, 1, 1},
		{1, 0}, {6, 0}, {6, 5}, {0, 2, 1}, {2, 1, 6}, {1, 0, 6}, {0, 1, 2, 6, 5}, {3, 0, 1, 2}, {0, 3, 0}, {0, 1, 0, 1},
		{-1}, {7}, {-2}, {8}, {63}, {64}, {top}, {bottom}, {-1, 0}, {-1, 0, 6}, {0, -1}, {0, -1, 1}, {0, 7}, {6, 7}, {7, 0}, {0, 7, 3}, {0, 3, 7}, {-2, -1}, {7, 8}, {0, 8},
		{0, 1, 2, 3, 4, 5, 6, 7}, {-1, 0, 1, 2, 3, 4, 5, 6}, {0, 1, 2, 3, 4, 5, 6, 6}, {0, 1, 2, 3, 4, 5, 6, 0},
		{bottom, 0}, {0, top}, {bottom, top}, {1 << 32}, {0, 1 << 32}, {-1 << 32},
	}
}

// P13.1: the chapter's numbers of blocks, with uses and without.
func TestRightOfBlocks(t *testing.T) {
	for _, blocks := range []int{-1, -2, -8, 9, 10, 63, 64, 1 << 32, 1<<32 + 1, -1 << 32, top, bottom, bottom + 1} {
		checkWrong(t, blocks, nil)
		checkWrong(t, blocks, []Use{})
		checkWrong(t, blocks, []Use{use(1)})
		checkWrong(t, blocks, []Use{use(1, 0, 5)})
		checkWrong(t, blocks, plain())
	}
	for blocks := 0; blocks <= 8; blocks++ {
		checkUses(t, blocks, []Use{use(1)})
		checkUses(t, blocks, []Use{use(1, 0, 5)})
		checkUses(t, blocks, plain())
		for _, l := range [][]Use{nil, {}} {
			if !Right(blocks, l) {
				t.Errorf("no uses of %d blocks are right", blocks)
			}
			checkCeilings(t, blocks, l, make([]int, blocks)...)
			checkWaits(t, blocks, l)
		}
	}
	if !Right(0, []Use{use(1)}) || Right(0, []Use{use(1, 0, 5)}) || !Right(7, plain()) || !Right(8, plain()) || Right(6, plain()) {
		t.Error("blocks that are there, and that are not")
	}
}

// P13.1: up to 8 uses, and more; one of them wrong, too, at each place.
func TestRightOfManyUses(t *testing.T) {
	for many := range 20 {
		l := slices.Repeat([]Use{use(5, 1, 9)}, many)
		if Right(2, l) != (many <= 8) {
			t.Errorf("%d uses: %v", many, Right(2, l))
		}
		checkUses(t, 2, l)
		checkUses(t, 8, slices.Repeat([]Use{{Prio: 1}}, many))
		for at := range l {
			l[at].Prio = 0
			checkWrong(t, 2, l)
			l[at].Prio = 5
		}
	}
	checkWrong(t, 2, slices.Repeat([]Use{use(5, 1, 9)}, 1<<10))
	if api.MaxTasks != 8 || api.MaxBlocks != 8 {
		t.Error("limits")
	}
}

// P13.1: priorities at the edges and far from them, in the first, a middle and the last use.
func TestRightOfPrio(t *testing.T) {
	for _, prio := range []int{1, 2, 50, 99, 100} {
		checkEach(t, true, func(u *Use) { u.Prio = prio })
	}
	for _, prio := range []int{0, -1, -100, 101, 102, 200, 1 << 32, 1<<32 + 1, 1<<8 + 1, bottom, bottom + 1, top} {
		checkEach(t, false, func(u *Use) { u.Prio = prio })
	}
	checkWrong(t, 0, []Use{{}})
	checkWrong(t, 8, []Use{{}})
}

// P13.1: Lens that are fewer than Blocks, and more.
func TestRightOfHowManyLens(t *testing.T) {
	for blocks := range 8 {
		for lens := range 12 {
			checkEach(t, blocks == lens, func(u *Use) {
				u.Blocks = []int{0, 1, 2, 3, 4, 5, 6}[:blocks]
				u.Lens = make([]int, lens)
			})
		}
	}
	checkWrong(t, 8, []Use{{Prio: 1, Lens: []int{0}}})
	checkWrong(t, 8, []Use{{Prio: 1, Blocks: []int{0}}})
	checkWrong(t, 8, []Use{{Prio: 1, Blocks: []int{0, 1}, Lens: []int{4}}, {Prio: 1, Blocks: []int{0}, Lens: []int{4, 4}}})
	checkWrong(t, 8, []Use{{Prio: 1, Lens: make([]int, 1<<20)}})
}

// P13.1: blocks that rise, stand twice, fall, or are not there.
func TestRightOfWhichBlocks(t *testing.T) {
	for _, row := range rightBlocks() {
		checkEach(t, true, func(u *Use) { u.Blocks, u.Lens = row, make([]int, len(row)) })
	}
	for _, row := range wrongBlocks() {
		checkEach(t, false, func(u *Use) { u.Blocks, u.Lens = row, make([]int, len(row)) })
	}
	for blocks := 0; blocks <= 8; blocks++ {
		for b := -3; b <= 10; b++ {
			if Right(blocks, []Use{use(1, b, 5)}) != (b >= 0 && b < blocks) {
				t.Errorf("block %d of %d", b, blocks)
			}
			checkUses(t, blocks, []Use{use(2), use(1, b, 5), use(3)})
			for c := -3; c <= 10; c++ {
				checkUses(t, blocks, []Use{use(1, b, 5, c, 6)})
			}
		}
	}
}

// P13.1: lengths at the edges and far from them, at each place of the first, a middle and the last use.
func TestRightOfLens(t *testing.T) {
	for k := range 7 {
		with := func(n int) func(u *Use) {
			return func(u *Use) {
				u.Blocks = []int{0, 1, 2, 3, 4, 5, 6}
				u.Lens = []int{9, 8, 7, 6, 5, 4, 3}
				u.Lens[k] = n
			}
		}
		for _, n := range []int{0, 1, 1 << 20, 1 << 32, longest - 1, longest} {
			checkEach(t, true, with(n))
		}
		for _, n := range []int{-1, -2, -longest, longest + 1, longest + 2, 1 << 41, 1 << 62, 1<<62 - 1, bottom, bottom + 1, top} {
			checkEach(t, false, with(n))
		}
	}
	checkUses(t, 7, []Use{use(1, 0, longest, 1, longest), use(2, 0, 0, 1, longest)})
}

// P13.2: a block that no use has, that one has, and that several have.
func TestCeilings(t *testing.T) {
	checkCeilings(t, 7, plain(), 40, 25, 40, 0, 60, 99, 10)
	checkCeilings(t, 8, plain(), 40, 25, 40, 0, 60, 99, 10, 0)
	checkCeilings(t, 0, nil)
	checkCeilings(t, 0, []Use{use(7), use(9)})
	checkCeilings(t, 3, nil, 0, 0, 0)
	checkCeilings(t, 8, nil, 0, 0, 0, 0, 0, 0, 0, 0)
	checkCeilings(t, 3, []Use{use(7), use(100)}, 0, 0, 0)
	checkCeilings(t, 3, []Use{use(100), use(7, 1, 0)}, 0, 7, 0)
	checkCeilings(t, 2, []Use{use(1, 0, 5), use(3, 0, 5), use(2)}, 3, 0)
	checkCeilings(t, 1, []Use{use(1, 0, 0)}, 1)
	checkCeilings(t, 1, []Use{use(100, 0, longest)}, 100)
	checkCeilings(t, 1, []Use{use(4, 0, 1), use(4, 0, 2)}, 4)
	all := []int{0, 1, 1, 1, 2, 1, 3, 1, 4, 1, 5, 1, 6, 1, 7, 1}
	checkCeilings(t, 8, []Use{use(6, all...)}, 6, 6, 6, 6, 6, 6, 6, 6)
	checkCeilings(t, 8, []Use{use(6, all...), use(9, 7, 1), use(5, 0, 1), use(8, 3, 1)}, 6, 6, 6, 8, 6, 6, 6, 9)
}

// P13.2: the greatest priority in the first, a middle and the last use, of each block.
func TestCeilingsAtEachPlace(t *testing.T) {
	for block := range 8 {
		for many := 1; many <= 8; many++ {
			for at := range many {
				l := slices.Repeat([]Use{use(50, block, 3)}, many)
				want := make([]int, 8)
				for _, prio := range []int{51, 100} {
					l[at].Prio = prio
					want[block] = prio
					checkCeilings(t, 8, l, want...)
				}
				l[at] = use(99)
				want[block] = 50
				if many == 1 {
					want[block] = 0
				}
				checkCeilings(t, 8, l, want...)
				l[at] = use(1, block, 3)
				if many == 1 {
					want[block] = 1
				}
				checkCeilings(t, 8, l, want...)
			}
		}
	}
}

// P13.3: no block held, one, several, and bits behind those that the ceilings tell.
func TestActive(t *testing.T) {
	ceilings := []int{30, 0, 70, 50}
	for held, want := range []int{40, 40, 40, 40, 70, 70, 70, 70, 50, 50, 50, 50, 70, 70, 70, 70} {
		checkActive(t, want, 40, held, ceilings...)
		for _, behind := range []int{1 << 4, 1 << 5, 1 << 30, 1 << 62, 1<<62 + 1<<32, bottom, bottom + 1<<62} {
			checkActive(t, want, 40, held+behind, ceilings...)
		}
	}
	for held := range 16 {
		checkActive(t, 71, 71, held, ceilings...)
	}
	checkActive(t, 70, 70, 15, ceilings...)
	checkActive(t, 30, 29, 1, ceilings...)
	checkActive(t, 30, 30, 1, ceilings...)
	checkActive(t, 1, 1, 2, ceilings...)
}

// P13.3: numbers below 0, the least and the greatest one.
func TestActiveOfNumbersBelow0(t *testing.T) {
	ceilings := []int{30, 0, 70, 50}
	checkActive(t, 70, 40, -1, ceilings...)
	checkActive(t, 70, 40, -2, ceilings...)
	checkActive(t, 70, 40, -4, ceilings...)
	checkActive(t, 50, 40, -5, ceilings...)
	checkActive(t, 50, 40, -8, ceilings...)
	checkActive(t, 40, 40, -16, ceilings...)
	checkActive(t, 40, 40, -15, ceilings...)
	checkActive(t, 30, 20, -15, ceilings...)
	checkActive(t, 40, 40, bottom, ceilings...)
	checkActive(t, 30, 20, bottom+1, ceilings...)
	checkActive(t, 70, 40, top, ceilings...)
	checkActive(t, 50, 40, top-7, ceilings...)
}

// P13.3: without ceilings there is the priority alone.
func TestActiveOfNoCeilings(t *testing.T) {
	for _, prio := range []int{0, 1, 40, 100, -1, -50, top, bottom} {
		for _, held := range []int{0, 1, -1, 1 << 62, top, bottom} {
			checkActive(t, prio, prio, held)
			checkActive(t, prio, prio, held, []int{}...)
		}
	}
}

// P13.3: each block alone, held and all others held, with fewer, just as many and more ceilings than there are bits.
func TestActiveOfEachBlock(t *testing.T) {
	for _, many := range []int{1, 2, 62, 63, 64, 65, 66, 100, 127, 128, 129, 200} {
		ceilings := make([]int, many)
		for b := range ceilings {
			ceilings[b] = 1000 + b
		}
		for b := range 64 {
			want := 5
			if b < many {
				want = 1000 + b
			}
			checkActive(t, want, 5, 1<<b, ceilings...)
			checkActive(t, 2000, 2000, 1<<b, ceilings...)
			others := min(many, 64) - 1
			if others == b {
				others--
			}
			want = 5
			if others >= 0 {
				want = 1000 + others
			}
			checkActive(t, want, 5, ^(1 << b), ceilings...)
		}
		checkActive(t, 1000+min(many, 64)-1, 5, -1, ceilings...)
		checkActive(t, 1000+min(many, 63)-1, 5, top, ceilings...)
		checkActive(t, 5, 5, 0, ceilings...)
	}
}

// P13.3: the bits 62 and 63, with 62, 63, 64, 65 and more ceilings, and a greater one behind them.
func TestActiveOfTheLastBits(t *testing.T) {
	ceilings := make([]int, 200)
	ceilings[61], ceilings[62], ceilings[63] = 20, 30, 50
	for b := 64; b < 200; b++ {
		ceilings[b] = 90
	}
	for many, want := range map[int][4]int{62: {7, 7, 7, 20}, 63: {30, 7, 30, 30}, 64: {30, 50, 50, 50}, 65: {30, 50, 50, 50}, 66: {30, 50, 50, 50}, 127: {30, 50, 50, 50}, 128: {30, 50, 50, 50}, 129: {30, 50, 50, 50}, 200: {30, 50, 50, 50}} {
		for k, held := range []int{1 << 62, bottom, bottom + 1<<62, -1} {
			checkActive(t, want[k], 7, held, ceilings[:many]...)
		}
		checkActive(t, 7, 7, 0, ceilings[:many]...)
		checkActive(t, 7, 7, 1, ceilings[:many]...)
	}
}

// P13.3: priorities and ceilings below 0, and great ones.
func TestActiveOfAnyNumbers(t *testing.T) {
	checkActive(t, -5, -5, 3, -9, -7)
	checkActive(t, -5, -9, 3, -5, -7)
	checkActive(t, -7, -9, 2, -5, -7)
	checkActive(t, -9, -9, 0, -5, -7)
	checkActive(t, 0, -9, 3, -5, 0)
	checkActive(t, 0, 0, 3, -5, -7)
	checkActive(t, -1, -1, -1, bottom, bottom)
	checkActive(t, bottom, bottom, -1, bottom, bottom)
	checkActive(t, bottom+1, bottom, -1, bottom, bottom+1)
	checkActive(t, bottom, bottom, 0, top)
	checkActive(t, top, bottom, 1, top)
	checkActive(t, top, bottom, -1, bottom, top, 0)
	checkActive(t, top-1, top-1, 2, top, top-2)
	checkActive(t, top, top, 3, bottom, -1)
	checkActive(t, 1<<62, 5, 1, 1<<62, 1<<62+1)
	checkActive(t, 101, 100, 1, 101)
	checkActive(t, 1000, 1000, 1, 101)
}

// P13.3: any numbers, against the words over numbers without bounds.
func TestActiveOfMany(t *testing.T) {
	r := rand.New(rand.NewSource(133))
	for range 20000 {
		ceilings := make([]int, r.Intn(80))
		shift := r.Intn(64)
		for b := range ceilings {
			ceilings[b] = int(r.Uint64()) >> shift
		}
		held := int(r.Uint64())
		switch r.Intn(4) {
		case 0:
			held &= int(r.Uint64() & r.Uint64() & r.Uint64())
		case 1:
			held >>= r.Intn(64)
		case 2:
			held = 1<<r.Intn(64) | 1<<r.Intn(64)
		}
		prio := int(r.Uint64()) >> max(shift, r.Intn(64))
		checkActive(t, wantActive(prio, held, ceilings), prio, held, ceilings...)
	}
}

// P13.4: the chapter's example, and plain uses.
func TestWaits(t *testing.T) {
	checkWaits(t, 1, []Use{use(1, 0, 5), use(3, 0, 5), use(2)}, 0, 5, 5)
	checkWaits(t, 7, plain(), 0, 50, 50, 70, 50, 50, 70)
	checkWaits(t, 8, plain(), 0, 50, 50, 70, 50, 50, 70)
	checkWaits(t, 0, nil)
	checkWaits(t, 8, nil)
	checkWaits(t, 0, []Use{use(1), use(50), use(100)}, 0, 0, 0)
	checkWaits(t, 1, []Use{use(9, 0, 5)}, 0)
	checkWaits(t, 1, []Use{use(1, 0, longest), use(100, 0, 0)}, 0, longest)
	checkWaits(t, 1, []Use{use(100, 0, 0), use(1, 0, longest)}, longest, 0)
}

// P13.4: uses below, of the same priority, and above, on both sides of the one that waits.
func TestWaitsForThoseBelowAlone(t *testing.T) {
	for prio, want := range map[int]int{1: 5, 48: 5, 49: 5, 50: 0, 51: 0, 52: 0, 100: 0} {
		other, own, same := use(prio, 0, 5), use(50), use(50, 0, 0)
		// The one above lifts the block to all, whoever else has it.
		high := use(100, 0, 0)
		if w := Waits(1, []Use{other, own, high}); w[1] != want {
			t.Errorf("50 waits %d for %d", w[1], prio)
		}
		if w := Waits(1, []Use{high, own, other}); w[1] != want {
			t.Errorf("50 waits %d for %d", w[1], prio)
		}
		if w := Waits(1, []Use{other, same}); w[1] != want {
			t.Errorf("50 with the block waits %d for %d", w[1], prio)
		}
		if w := Waits(1, []Use{same, other}); w[0] != want {
			t.Errorf("50 with the block waits %d for %d", w[0], prio)
		}
		checkUses(t, 1, []Use{other, own, high})
		checkUses(t, 1, []Use{high, own, other})
		checkUses(t, 1, []Use{same, other, own})
	}
	checkWaits(t, 1, []Use{use(50, 0, 7), use(50, 0, 9), use(50, 0, 8)}, 0, 0, 0)
	checkWaits(t, 1, []Use{use(50, 0, 7), use(51, 0, 9), use(52, 0, 8)}, 0, 7, 9)
	checkWaits(t, 1, []Use{use(52, 0, 8), use(51, 0, 9), use(50, 0, 7)}, 9, 7, 0)
}

// P13.4: a ceiling just below, at, and above the own priority, of a block that it has and of one that it has not.
func TestWaitsForCeilings(t *testing.T) {
	for ceiling, want := range map[int]int{2: 0, 48: 0, 49: 0, 50: 5, 51: 5, 100: 5} {
		l := []Use{use(1, 2, 5), use(50), use(ceiling, 2, 0)}
		if w := Waits(3, l); w[1] != want {
			t.Errorf("50 waits %d under the ceiling %d", w[1], ceiling)
		}
		checkUses(t, 3, l)
		slices.Reverse(l)
		if w := Waits(3, l); w[1] != want {
			t.Errorf("50 waits %d under the ceiling %d", w[1], ceiling)
		}
		checkUses(t, 3, l)
	}
	checkWaits(t, 2, []Use{use(1, 0, 5, 1, 9), use(3, 0, 1), use(4)}, 0, 5, 0)
	checkWaits(t, 2, []Use{use(1, 0, 5, 1, 9), use(3, 1, 1), use(4)}, 0, 9, 0)
	checkWaits(t, 2, []Use{use(1, 0, 5, 1, 9), use(3, 0, 1), use(2)}, 0, 5, 5)
	// Just the own use makes the ceiling.
	checkWaits(t, 2, []Use{use(1, 0, 5), use(3, 0, 1, 1, 8), use(2, 1, 4)}, 0, 5, 5)
	// A block of the one that waits, that nobody below has.
	checkWaits(t, 2, []Use{use(1, 0, 5), use(3, 1, 8)}, 0, 0)
}

// P13.4: nobody waits for a block that one use alone has.
func TestWaitsForABlockOfOneAlone(t *testing.T) {
	for block := range 8 {
		for prio := 1; prio <= 100; prio += 11 {
			checkWaits(t, 8, []Use{use(prio, block, 77), use(100), use(prio)}, 0, 0, 0)
		}
	}
}

// P13.4: the greatest one of several Lens, of one use and of several, at each place; of 0 and of 2^40.
func TestWaitsForTheGreatest(t *testing.T) {
	all := func(prio, n int) Use {
		return use(prio, 0, n, 1, n, 2, n, 3, n, 4, n, 5, n, 6, n, 7, n)
	}
	for at := range 7 {
		for k := range 8 {
			for _, n := range []int{0, 1, 30, 31, longest} {
				l := []Use{all(1, 30), all(2, 30), all(3, 30), all(4, 30), all(5, 30), all(6, 30), all(7, 30), all(8, 30)}
				l[at].Lens[k] = n
				want := []int{0, 30, 30, 30, 30, 30, 30, 30}
				for i := at + 1; i < 8; i++ {
					want[i] = max(30, n)
				}
				checkWaits(t, 8, l, want...)
				slices.Reverse(l)
				slices.Reverse(want)
				checkWaits(t, 8, l, want...)
			}
		}
	}
	checkWaits(t, 8, []Use{all(1, 0), all(2, 0)}, 0, 0)
	checkWaits(t, 8, []Use{all(1, longest), all(2, longest)}, 0, longest)
	checkWaits(t, 8, []Use{all(1, 0), all(2, longest), all(3, 7)}, 0, 0, longest)
	checkWaits(t, 2, []Use{use(1, 0, 4, 1, 6), use(2, 0, 3, 1, 2)}, 0, 6)
	checkWaits(t, 2, []Use{use(1, 0, 6, 1, 4), use(2, 0, 3, 1, 2)}, 0, 6)
}

// P13.4: a greater length that does not count makes no difference: of one above, of the same priority, or under a ceiling that is too low.
func TestWaitsForNothingElse(t *testing.T) {
	l := []Use{use(1, 0, 5, 1, 900), use(50, 0, 800), use(50, 0, 700), use(60, 0, 600), use(20, 2, 500)}
	checkWaits(t, 3, l, 0, 5, 5, 800, 5)
	l[0].Lens[0] = 0
	checkWaits(t, 3, l, 0, 0, 0, 800, 0)
	l[3].Blocks[0] = 2
	checkWaits(t, 3, l, 0, 500, 500, 500, 0)
	l[4].Prio = 50
	checkWaits(t, 3, l, 0, 0, 0, 500, 0)
}

// P13.4, P13.2, P13.1: all uses of one, two and three of priorities 1 to 3 and of two blocks.
func TestAllSmallUses(t *testing.T) {
	var each []Use
	for prio := 1; prio <= 3; prio++ {
		each = append(each, use(prio))
		for _, n := range []int{0, 4, 9} {
			each = append(each, use(prio, 0, n), use(prio, 1, n), use(prio, 0, n, 1, 9-n))
		}
	}
	for _, a := range each {
		checkUses(t, 2, []Use{a})
		for _, b := range each {
			checkUses(t, 2, []Use{a, b})
			for _, c := range each {
				checkUses(t, 2, []Use{a, b, c})
			}
		}
	}
}

// some is uses that are right, of few priorities or of many.
func some(r *rand.Rand) (int, []Use) {
	blocks, prios, lens := r.Intn(9), 1+r.Intn(100), 1+r.Intn(1<<r.Intn(41))
	l := make([]Use, r.Intn(9))
	for i := range l {
		l[i].Prio = 1 + r.Intn(prios)
		odds := 1 + r.Intn(4)
		for b := range blocks {
			if r.Intn(odds) == 0 {
				l[i].Blocks = append(l[i].Blocks, b)
				l[i].Lens = append(l[i].Lens, r.Intn(lens+1))
			}
		}
	}
	return blocks, l
}

// P13.1, P13.2, P13.4: many uses that are right, against the words.
func TestManyUses(t *testing.T) {
	r := rand.New(rand.NewSource(13))
	waiting := 0
	for range 20000 {
		blocks, l := some(r)
		if !wantRight(blocks, l) {
			t.Fatalf("%v of %d blocks", l, blocks)
		}
		checkUses(t, blocks, l)
		for _, n := range Waits(blocks, l) {
			if n > 0 {
				waiting++
			}
		}
	}
	if waiting < 10000 {
		t.Errorf("just %d wait", waiting)
	}
}

// spoil changes one number of a use, or how many it has.
func spoil(r *rand.Rand, u *Use) {
	numbers := []int{-1, 0, 1, 7, 8, 9, 100, 101, longest, longest + 1, top, bottom}
	n := numbers[r.Intn(len(numbers))]
	k := 0
	if len(u.Blocks) > 0 {
		k = r.Intn(len(u.Blocks))
	}
	switch kind := r.Intn(6); {
	case kind == 0:
		u.Prio = n
	case kind == 1:
		u.Lens = append(u.Lens, n)
	case kind == 2:
		u.Blocks = append(u.Blocks, n)
	case len(u.Blocks) == 0:
	case kind == 3:
		u.Blocks[k] = n
	case kind == 4 && k < len(u.Lens):
		u.Lens[k] = n
	case kind == 5:
		u.Blocks[k], u.Blocks[0] = u.Blocks[0], u.Blocks[k]
	}
}

// P13.1: uses near to such that are right: no, and nothing, of those that are not.
func TestUsesNearToRightOnes(t *testing.T) {
	r := rand.New(rand.NewSource(131))
	right, wrong := 0, 0
	for range 20000 {
		blocks, l := some(r)
		for range 1 + r.Intn(2) {
			switch at := r.Intn(9); {
			case at < len(l):
				spoil(r, &l[at])
			case at == 8:
				blocks += r.Intn(3) - 1
			}
		}
		checkUses(t, blocks, l)
		if wantRight(blocks, l) {
			right++
		} else {
			wrong++
		}
	}
	if right < 2000 || wrong < 2000 {
		t.Errorf("%d right ones, %d wrong ones", right, wrong)
	}
}

// P13.1, P13.2, P13.4: wrong uses of each kind, that would have ceilings and waits: nothing, whatever stands around them.
func TestNothingOfWrongUses(t *testing.T) {
	waiting := []Use{use(1, 0, 5), use(3, 0, 5)}
	wrong := []Use{{Prio: 0}, {Prio: 101}, use(0, 0, 5), use(101, 0, 5), {Prio: 2, Blocks: []int{0}}, {Prio: 2, Lens: []int{5}}, {Prio: 2, Blocks: []int{0, 1}, Lens: []int{5}}, {Prio: 2, Blocks: []int{0}, Lens: []int{5, 6}}, use(2, 0, 5, 0, 5), use(2, 1, 5, 0, 5), use(2, -1, 5), use(2, 2, 5), use(2, 0, -1), use(2, 0, longest+1), use(2, 0, 5, 1, -1), use(2, 0, 5, 1, longest+1)}
	checkUses(t, 2, waiting)
	for _, w := range wrong {
		checkWrong(t, 2, []Use{w})
		for at := 0; at <= 2; at++ {
			checkWrong(t, 2, slices.Insert(deepCopy(waiting), at, w))
		}
	}
	checkWrong(t, 9, waiting)
	checkWrong(t, -1, waiting)
	checkWrong(t, 0, waiting)
	checkWrong(t, 2, slices.Repeat(waiting, 5))
}

// P13.5: a task waits for none that is not below it: the lengths of those make no difference, and without those below it there is nothing to wait for.
func TestNobodyWaitsForThoseAbove(t *testing.T) {
	r := rand.New(rand.NewSource(1351))
	for range 4000 {
		blocks, l := some(r)
		waits := Waits(blocks, l)
		for i, own := range l {
			above, below := deepCopy(l), deepCopy(l)
			for k, u := range l {
				for place := range u.Lens {
					if u.Prio >= own.Prio {
						above[k].Lens[place] = r.Intn(longest + 1)
					} else {
						below[k].Lens[place] = 0
					}
				}
			}
			if w := Waits(blocks, above); w[i] != waits[i] {
				t.Fatalf("%v: %d waits %d, with other lengths above it %d", l, i, waits[i], w[i])
			}
			if w := Waits(blocks, below); w[i] != 0 {
				t.Fatalf("%v: %d waits %d, with nothing below it", below, i, w[i])
			}
		}
	}
}

// P13.5: whom a task waits for is below it, and holds a block that lifts it to the task; none such holds one for longer.
func TestWhoKeepsWhomWaiting(t *testing.T) {
	r := rand.New(rand.NewSource(1352))
	for range 10000 {
		blocks, l := some(r)
		waits, ceilings := Waits(blocks, l), Ceilings(blocks, l)
		for i, own := range l {
			keeper := waits[i] == 0
			for _, u := range l {
				for k, b := range u.Blocks {
					keeps := u.Prio < own.Prio && Active(u.Prio, 1<<b, ceilings) >= own.Prio
					keeper = keeper || keeps && u.Lens[k] == waits[i]
					if keeps && u.Lens[k] > waits[i] {
						t.Fatalf("%v: %d waits %d, and block %d keeps it for %d", l, i, waits[i], b, u.Lens[k])
					}
				}
			}
			if !keeper {
				t.Fatalf("%v: nobody keeps %d waiting for %d", l, i, waits[i])
			}
		}
	}
}

// P13.5: who holds blocks is lifted to all that have one of them, no higher than the highest of these, and never below itself.
func TestWhoHoldsIsLiftedToAllThatHave(t *testing.T) {
	r := rand.New(rand.NewSource(1353))
	for range 4000 {
		blocks, l := some(r)
		ceilings := Ceilings(blocks, l)
		for _, u := range l {
			for choice := range 1 << len(u.Blocks) {
				held, reach := 0, u.Prio
				for k, b := range u.Blocks {
					if choice>>k&1 == 0 {
						continue
					}
					held += 1 << b
					for _, other := range l {
						if slices.Contains(other.Blocks, b) {
							reach = max(reach, other.Prio)
						}
					}
				}
				if n := Active(u.Prio, held, ceilings); n != reach {
					t.Fatalf("%v: %v with %b is lifted to %d; want %d", l, u, held, n, reach)
				}
			}
		}
	}
}

// withRoom is uses with room behind their lists, in which there are other uses and numbers.
func withRoom(l []Use) []Use {
	room := append(deepCopy(l), use(100, 0, 5), Use{})
	for i := range room {
		u := &room[i]
		u.Blocks = append(slices.Clone(u.Blocks), 7, -1, 0)[:len(u.Blocks)]
		u.Lens = append(slices.Clone(u.Lens), longest, 3, -1)[:len(u.Lens)]
	}
	return room[:len(l)]
}

// withAllRoom is uses with the room behind their lists as if it were theirs.
func withAllRoom(l []Use) []Use {
	l = slices.Clone(l[:cap(l)])
	for i := range l {
		l[i].Blocks, l[i].Lens = l[i].Blocks[:cap(l[i].Blocks)], l[i].Lens[:cap(l[i].Lens)]
	}
	return l
}

// R4: uses that are handed in are not changed, nor the room behind their lists, whether they are right or not, and whatever becomes of the answers.
func TestUsesHandedInAreNotChanged(t *testing.T) {
	r := rand.New(rand.NewSource(134))
	for k := range 3000 {
		blocks, l := some(r)
		if k%3 == 0 && len(l) > 0 {
			spoil(r, &l[r.Intn(len(l))])
		}
		l = withRoom(l)
		before := deepCopy(withAllRoom(l))
		Right(blocks, l)
		for _, answer := range [][]int{Ceilings(blocks, l), Waits(blocks, l)} {
			for at := range answer[:cap(answer)] {
				answer[:cap(answer)][at] = -99
			}
		}
		if !sameUses(withAllRoom(l), before) {
			t.Fatalf("changed: %v", l)
		}
	}
}

// R4: ceilings that are handed in are neither changed nor kept, nor the room behind them.
func TestCeilingsHandedInAreNeitherChangedNorKept(t *testing.T) {
	room := []int{30, -9, 70, 50, 99, top, bottom}
	before := slices.Clone(room)
	for size := range len(room) + 1 {
		for held := range 128 {
			checkActive(t, wantActive(40, held, room[:size]), 40, held, room[:size]...)
		}
		if !slices.Equal(room, before) {
			t.Fatalf("changed: %v", room)
		}
	}
	checkActive(t, 70, 40, 4, room[:3]...)
	room[2] = 41
	checkActive(t, 41, 40, 4, room[:3]...)
	clear(room)
	checkActive(t, 40, 40, 4, room[:3]...)
}

// R4, R5: uses that are handed in are not kept: what they become later changes no answer that was told, and is seen by the next call.
func TestUsesHandedInAreNotKept(t *testing.T) {
	l := withRoom(plain())
	ceilings, waits := Ceilings(7, l), Waits(7, l)
	l[0].Lens[0] = 51
	checkWaits(t, 7, l, 0, 51, 51, 70, 51, 51, 70)
	l[6].Prio = 61
	checkCeilings(t, 7, l, 40, 25, 40, 0, 60, 61, 10)
	l[5].Blocks[0] = 1
	checkCeilings(t, 7, l, 10, 40, 40, 0, 60, 61, 10)
	l[5].Blocks[0] = 2
	checkWrong(t, 7, l)
	clear(l)
	checkWrong(t, 7, l)
	if !slices.Equal(ceilings, []int{40, 25, 40, 0, 60, 99, 10}) || !slices.Equal(waits, []int{0, 50, 50, 70, 50, 50, 70}) {
		t.Errorf("answers became %v, %v", ceilings, waits)
	}
	checkUses(t, 7, plain())
}

// R4: answers are new memory, spare room too: what is done with one changes no other one.
func TestAnswersAreNewMemory(t *testing.T) {
	l := plain()
	calls := []func() []int{
		func() []int { return Ceilings(7, l) },
		func() []int { return Waits(7, l) },
		func() []int { return Ceilings(8, nil) },
		func() []int { return Waits(8, []Use{use(9), use(8)}) },
		func() []int { return Ceilings(7, l) },
		func() []int { return Waits(7, l) },
	}
	var answers, wants [][]int
	for _, call := range slices.Concat(calls, calls) {
		answer := call()
		answers, wants = append(answers, answer), append(wants, slices.Clone(answer))
	}
	for k, answer := range answers {
		for at := range answer[:cap(answer)] {
			answer[:cap(answer)][at] = -99
		}
		for later := k + 1; later < len(answers); later++ {
			if !slices.Equal(answers[later], wants[later]) {
				t.Fatalf("answer %d was changed with answer %d: %v", later, k, answers[later])
			}
		}
	}
	for k, call := range calls {
		if answer := call(); !slices.Equal(answer, wants[k]) {
			t.Errorf("call %d answers %v; want %v", k, answer, wants[k])
		}
	}
	if !sameUses(l, plain()) {
		t.Errorf("the uses were changed with an answer: %v", l)
	}
}

// R4: a nil list is an empty one, within a use too.
func TestNilListsAreEmptyOnes(t *testing.T) {
	for _, blocks := range [][]int{nil, {}} {
		for _, lens := range [][]int{nil, {}} {
			checkUses(t, 3, []Use{{5, blocks, lens}})
			checkUses(t, 3, []Use{use(2, 1, 8), {5, blocks, lens}, use(7, 1, 9)})
			checkWaits(t, 3, []Use{use(2, 1, 8), {5, blocks, lens}, use(7, 1, 9)}, 0, 8, 8)
		}
	}
}

// R5: the same is answered again, whatever is asked between.
func TestOneAnswer(t *testing.T) {
	for range 3 {
		checkWaits(t, 7, plain(), 0, 50, 50, 70, 50, 50, 70)
		checkWrong(t, 6, plain())
		checkCeilings(t, 7, plain(), 40, 25, 40, 0, 60, 99, 10)
		checkActive(t, 70, 40, 4, 30, 0, 70)
		checkActive(t, 40, 40, 4)
		checkWaits(t, 1, []Use{use(1, 0, 5), use(3, 0, 5), use(2)}, 0, 5, 5)
		checkUses(t, 0, nil)
		checkWrong(t, 9, nil)
	}
}
