package nat

import (
	"math/big"
	"math/rand"
	"slices"
	"testing"

	"camshaft/api"
)

const (
	greatest = 1<<62 - 1
	top      = 1<<63 - 1
	bottom   = -1 << 63
)

// cant is numbers that can't be, near to those that can and far from them.
func cant() []int {
	return []int{-1, -2, -7, -1 << 31, -1 << 32, -greatest, -1 << 62, -1<<62 - 1, bottom + 1, bottom, 1 << 62, 1<<62 + 1, 1<<62 + 1<<61, top - 1, top}
}

// can is numbers at and beside the edges, and some of all sizes.
func can() []int {
	l := []int{
		0, 1, 2, 3, 4, 5, 7, 8, 10, 63, 64, 65, 100, 1000,
		1<<30 - 1, 1 << 30, 1<<31 - 1, 1 << 31, 1<<31 + 1, 1<<32 - 1, 1 << 32, 1<<32 + 1, 3 << 31,
		greatest / 7, greatest / 3, 1 << 60, 1<<61 - 1, 1 << 61, 1<<61 + 1, greatest - 1000, greatest - 2, greatest - 1, greatest,
	}
	r := rand.New(rand.NewSource(10))
	for range 40 {
		l = append(l, r.Intn(1<<62)>>r.Intn(62))
	}
	return l
}

func sample() []int { return append(can(), cant()...) }

func number(n int) *big.Int { return big.NewInt(int64(n)) }

// within is P10.1 again, over numbers without bounds.
func within(n *big.Int) bool {
	return n.Sign() >= 0 && n.Cmp(new(big.Int).Lsh(big.NewInt(1), 62)) < 0
}

// wanted is what P10.2 asks for of some numbers, and of what comes of them without bounds.
func wanted(made *big.Int, l ...int) (int, api.Errno) {
	for _, n := range l {
		if !within(number(n)) {
			return 0, api.ErrArg
		}
	}
	if !within(made) {
		return 0, api.ErrBig
	}
	return int(made.Int64()), api.OK
}

func wantedSum(l ...int) (int, api.Errno) {
	sum := new(big.Int)
	for _, n := range l {
		sum.Add(sum, number(n))
	}
	return wanted(sum, l...)
}

func wantedProduct(a, b int) (int, api.Errno) {
	return wanted(new(big.Int).Mul(number(a), number(b)), a, b)
}

func wantedQuotient(a, b int) (int, api.Errno) {
	if b == 0 {
		return 0, api.ErrArg
	}
	quotient, rest := new(big.Int).QuoRem(number(a), number(b), new(big.Int))
	if rest.Sign() > 0 {
		quotient.Add(quotient, big.NewInt(1))
	}
	return wanted(quotient, a, b)
}

func checkAdd(t *testing.T, want int, err api.Errno, l ...int) {
	t.Helper()
	if n, e := Add(l...); n != want || e != err {
		t.Errorf("Add(%v) = %d, %d; want %d, %d", l, n, e, want, err)
	}
}

func checkMul(t *testing.T, want int, err api.Errno, a, b int) {
	t.Helper()
	if n, e := Mul(a, b); n != want || e != err {
		t.Errorf("Mul(%d, %d) = %d, %d; want %d, %d", a, b, n, e, want, err)
	}
	if n, e := Mul(b, a); n != want || e != err {
		t.Errorf("Mul(%d, %d) = %d, %d; want %d, %d", b, a, n, e, want, err)
	}
}

func checkCeil(t *testing.T, want int, err api.Errno, a, b int) {
	t.Helper()
	if n, e := Ceil(a, b); n != want || e != err {
		t.Errorf("Ceil(%d, %d) = %d, %d; want %d, %d", a, b, n, e, want, err)
	}
}

func checkMostLeast(t *testing.T, most, least int, l ...int) {
	t.Helper()
	if n := Most(l...); n != most {
		t.Errorf("Most(%v) = %d; want %d", l, n, most)
	}
	if n := Least(l...); n != least {
		t.Errorf("Least(%v) = %d; want %d", l, n, least)
	}
}

// orders hands on a row in each order.
func orders(l []int, hand func(l []int)) {
	var turn func(from int)
	row := slices.Clone(l)
	turn = func(from int) {
		if from >= len(row) {
			hand(row)
			return
		}
		for i := from; i < len(row); i++ {
			row[from], row[i] = row[i], row[from]
			turn(from + 1)
			row[from], row[i] = row[i], row[from]
		}
	}
	turn(0)
}

// P10.1: the edges, one by one.
func TestRight(t *testing.T) {
	for _, n := range []int{0, 1, 2, 1<<31 - 1, 1 << 31, 1 << 32, 1 << 61, greatest - 1, greatest} {
		if !Right(n) {
			t.Errorf("%d can be", n)
		}
	}
	for _, n := range []int{-1, -2, -1 << 32, -1 << 62, bottom + 1, bottom, 1 << 62, 1<<62 + 1, top - 1, top} {
		if Right(n) {
			t.Errorf("%d can't be", n)
		}
	}
	if api.MaxNat != 1<<62 {
		t.Errorf("MaxNat is %d", api.MaxNat)
	}
}

// P10.1: numbers around each power of two, below 0 and above, against numbers without bounds.
func TestRightOfAllSizes(t *testing.T) {
	for size := range 64 {
		for off := -3; off <= 3; off++ {
			for _, n := range []int{1<<size + off, -(1 << size) + off} {
				if Right(n) != within(number(n)) {
					t.Errorf("Right(%d) = %v", n, Right(n))
				}
			}
		}
	}
	for _, n := range sample() {
		if Right(n) != within(number(n)) {
			t.Errorf("Right(%d) = %v", n, Right(n))
		}
	}
}

// P10.2: sums of none, of one, and of several.
func TestAdd(t *testing.T) {
	checkAdd(t, 0, api.OK)
	checkAdd(t, 0, api.OK, []int{}...)
	checkAdd(t, 0, api.OK, 0)
	checkAdd(t, 7, api.OK, 7)
	checkAdd(t, 12, api.OK, 7, 5)
	checkAdd(t, 10, api.OK, 1, 2, 3, 4)
	checkAdd(t, 15, api.OK, 5, 5, 5)
	checkAdd(t, 6, api.OK, 0, 1, 0, 2, 0, 3, 0)
	for _, n := range can() {
		checkAdd(t, n, api.OK, n)
		checkAdd(t, n, api.OK, 0, n, 0)
	}
	for _, n := range cant() {
		checkAdd(t, 0, api.ErrArg, n)
	}
}

// P10.2: all sums of two, and some of three, numbers that can be and that can't, against sums without bounds.
func TestAddOfTwoAndThree(t *testing.T) {
	l := sample()
	for i, a := range l {
		for j, b := range l {
			n, e := wantedSum(a, b)
			checkAdd(t, n, e, a, b)
			c := l[(i*7+j*3)%len(l)]
			n, e = wantedSum(a, b, c)
			checkAdd(t, n, e, a, b, c)
		}
	}
}

// P10.2: sums that are just 2^62 - 1, just below it and just above it, of two numbers and of more.
func TestAddAtTheEdge(t *testing.T) {
	for _, a := range can() {
		checkAdd(t, greatest, api.OK, a, greatest-a)
		checkAdd(t, greatest, api.OK, greatest-a, 0, a)
		if a > 0 {
			checkAdd(t, 0, api.ErrBig, greatest-a+1, a)
			checkAdd(t, 0, api.ErrBig, a, greatest-a+1, 0)
			checkAdd(t, greatest, api.OK, a-1, greatest-a, 1)
			checkAdd(t, greatest-1, api.OK, a-1, greatest-a)
		}
	}
	for parts := 2; parts < 200; parts++ {
		row := slices.Repeat([]int{greatest / parts}, parts)
		row[parts/2] += greatest % parts
		checkAdd(t, greatest, api.OK, row...)
		for _, at := range []int{0, parts / 2, parts - 1} {
			row[at]++
			checkAdd(t, 0, api.ErrBig, row...)
			row[at] -= 2
			checkAdd(t, greatest-1, api.OK, row...)
			row[at]++
		}
		checkAdd(t, greatest, api.OK, append(row, 0, 0)...)
		checkAdd(t, 0, api.ErrBig, append(row, 0, 1)...)
	}
}

// P10.2: sums that 64 bits could not hold, those among them that would be small there.
func TestAddOfManyGreatNumbers(t *testing.T) {
	for size := 50; size < 62; size++ {
		full := 1 << (62 - size)
		for _, many := range []int{full, full + 1, 2*full - 1, 2 * full, 3 * full, 4*full - 1, 4 * full, 4*full + 1, 5 * full, 8 * full, 8*full + 1} {
			row := slices.Repeat([]int{1 << size}, many)
			checkAdd(t, 0, api.ErrBig, row...)
			checkAdd(t, 0, api.ErrBig, append(row, 5)...)
			checkAdd(t, (full-1)<<size+5, api.OK, append(row[:full-1:full-1], 5)...)
		}
	}
	for many := 2; many < 300; many++ {
		row := slices.Repeat([]int{greatest}, many)
		checkAdd(t, 0, api.ErrBig, row...)
		checkAdd(t, 0, api.ErrBig, append(row, many)...)
		checkAdd(t, 0, api.ErrBig, append(row, many, 7)...)
	}
}

// P10.2: a row of very many numbers, at the edge.
func TestAddOfVeryManyNumbers(t *testing.T) {
	row := slices.Repeat([]int{1 << 42}, 1<<20)
	if n, e := Add(row...); n != 0 || e != api.ErrBig {
		t.Errorf("the sum of 2^20 times 2^42 is %d, %d", n, e)
	}
	row[1<<19]--
	if n, e := Add(row...); n != greatest || e != api.OK {
		t.Errorf("the sum of 2^20 numbers, in all 2^62 - 1, is %d, %d", n, e)
	}
	row[1<<20-1] = -1
	if n, e := Add(row...); n != 0 || e != api.ErrArg {
		t.Errorf("the sum of 2^20 numbers, the last one -1, is %d, %d", n, e)
	}
}

// P10.2, R2: a number that can't be, at each place of rows whose sum is small, just right, or too great: ahead of it and without it.
func TestAddOfWrongNumbers(t *testing.T) {
	for size := 1; size <= 12; size++ {
		for _, each := range []int{0, 1, greatest / size, greatest/size + 1, 1 << 61, greatest} {
			row := slices.Repeat([]int{each}, size)
			for at := range row {
				for _, wrong := range cant() {
					row[at] = wrong
					checkAdd(t, 0, api.ErrArg, row...)
				}
				row[at] = each
			}
		}
	}
	checkAdd(t, 0, api.ErrArg, greatest, 1, -1)
	checkAdd(t, 0, api.ErrArg, greatest, greatest, greatest, 1<<62)
	checkAdd(t, 0, api.ErrArg, greatest, greatest, greatest, greatest, greatest, bottom)
}

// P10.2: several numbers that can't be, whose sum could.
func TestAddOfWrongNumbersThatMakeARightSum(t *testing.T) {
	for _, row := range [][]int{{-1, 1}, {1, -1}, {5, -3, 7}, {1 << 62, -1}, {-1, 1 << 62}, {top, bottom, 2}, {bottom, bottom}, {1 << 62, 1 << 62, 1 << 62, 1 << 62}, {top, -top}, {-5, 10, -5}} {
		checkAdd(t, 0, api.ErrArg, row...)
	}
}

// P10.2: products with 0, with 1, of the chapter's example, and others.
func TestMul(t *testing.T) {
	checkMul(t, 0, api.OK, 0, 0)
	checkMul(t, 1, api.OK, 1, 1)
	checkMul(t, 42, api.OK, 6, 7)
	checkMul(t, 81, api.OK, 9, 9)
	checkMul(t, 1000000, api.OK, 1000, 1000)
	checkMul(t, 0, api.ErrBig, 1<<31, 1<<31)
	for _, n := range can() {
		checkMul(t, 0, api.OK, n, 0)
		checkMul(t, n, api.OK, n, 1)
	}
	for _, n := range cant() {
		for _, other := range []int{0, 1, 2, greatest, n} {
			checkMul(t, 0, api.ErrArg, n, other)
		}
	}
}

// P10.2: all products of numbers that can be and that can't, against products without bounds.
func TestMulOfAll(t *testing.T) {
	for _, a := range sample() {
		for _, b := range sample() {
			n, e := wantedProduct(a, b)
			checkMul(t, n, e, a, b)
		}
	}
}

// P10.2: products that are just 2^62 - 1, and the last one that is not above it of each number, and the next one.
func TestMulAtTheEdge(t *testing.T) {
	checkMul(t, greatest, api.OK, 1<<31-1, 1<<31+1)
	checkMul(t, greatest, api.OK, 3, greatest/3)
	checkMul(t, 1<<62-1<<31, api.OK, 1<<31, 1<<31-1)
	checkMul(t, greatest-1, api.OK, 1<<61-1, 2)
	checkMul(t, 0, api.ErrBig, 1<<61, 2)
	checkMul(t, 0, api.ErrBig, 1<<31+1, 1<<31)
	checkMul(t, 0, api.ErrBig, greatest, 2)
	checkMul(t, 0, api.ErrBig, greatest, greatest)
	l := can()
	for n := 1; n < 3000; n++ {
		l = append(l, n, 1<<31-1500+n)
	}
	for _, a := range l {
		if a < 2 {
			continue
		}
		last := greatest / a
		checkMul(t, a*last, api.OK, a, last)
		checkMul(t, 0, api.ErrBig, a, last+1)
		checkMul(t, 0, api.ErrBig, a, greatest)
	}
}

// P10.2: products that 64 bits could not hold, and that would look small, or right, there.
func TestMulThatWouldLookSmall(t *testing.T) {
	for a := 1; a < 62; a++ {
		for b := max(62-a, 1); b < 62; b++ {
			checkMul(t, 0, api.ErrBig, 1<<a, 1<<b)
			checkMul(t, 0, api.ErrBig, 1<<a+1, 1<<b)
			checkMul(t, 0, api.ErrBig, 1<<a+1, 1<<b+1)
		}
	}
	seen := 0
	for a := 3; a < 3000; a += 2 {
		// Each round doubles the bits in which a times other is 1.
		other := a
		for range 6 {
			other *= 2 - a*other
		}
		for looks := range 20 {
			if b := looks * other; within(number(b)) && b > greatest/a {
				seen++
				checkMul(t, 0, api.ErrBig, a, b)
			}
		}
	}
	if seen < 1000 {
		t.Errorf("just %d products would look small", seen)
	}
}

// P10.2: quotients that are even, and that are rounded up.
func TestCeil(t *testing.T) {
	checkCeil(t, 3, api.OK, 7, 3)
	checkCeil(t, 2, api.OK, 6, 3)
	checkCeil(t, 3, api.OK, 8, 3)
	checkCeil(t, 3, api.OK, 9, 3)
	checkCeil(t, 1, api.OK, 1, 3)
	checkCeil(t, 1, api.OK, 1, 1)
	checkCeil(t, 0, api.OK, 0, 1)
	checkCeil(t, greatest, api.OK, greatest, 1)
	checkCeil(t, 1<<61, api.OK, greatest, 2)
	checkCeil(t, 1<<61-1, api.OK, greatest-1, 2)
	checkCeil(t, 1<<31+1, api.OK, greatest, 1<<31-1)
	checkCeil(t, 1<<31, api.OK, greatest, 1<<31)
	checkCeil(t, 2, api.OK, greatest, greatest-1)
	checkCeil(t, 1, api.OK, greatest, greatest)
	checkCeil(t, 1, api.OK, greatest-1, greatest)
	checkCeil(t, 1, api.OK, 1, greatest)
	for _, n := range can() {
		checkCeil(t, n, api.OK, n, 1)
		checkCeil(t, 0, api.ErrArg, n, 0)
		if n > 0 {
			checkCeil(t, 0, api.OK, 0, n)
			checkCeil(t, 1, api.OK, n, n)
		}
	}
}

// P10.2: all quotients of numbers that can be and that can't, against quotients without bounds; of those that can be none is too great.
func TestCeilOfAll(t *testing.T) {
	for _, a := range sample() {
		for _, b := range sample() {
			n, e := wantedQuotient(a, b)
			checkCeil(t, n, e, a, b)
			if e == api.ErrBig {
				t.Errorf("Ceil(%d, %d) would be above both", a, b)
			}
		}
	}
}

// P10.2: numbers that can't be, on both sides, with 0 and with others.
func TestCeilOfWrongNumbers(t *testing.T) {
	for _, wrong := range cant() {
		for _, other := range []int{0, 1, 2, 5, greatest, -1, wrong} {
			checkCeil(t, 0, api.ErrArg, wrong, other)
			checkCeil(t, 0, api.ErrArg, other, wrong)
		}
	}
	checkCeil(t, 0, api.ErrArg, 0, 0)
	checkCeil(t, 0, api.ErrArg, bottom, -1)
}

// P10.3: of none, of one, of the same ones, and of others, whatever they are.
func TestMostLeast(t *testing.T) {
	checkMostLeast(t, 0, 0)
	checkMostLeast(t, 0, 0, []int{}...)
	checkMostLeast(t, 5, 5, 5, 5, 5, 5)
	checkMostLeast(t, -5, -5, -5, -5)
	checkMostLeast(t, 3, 1, 3, 1, 2)
	checkMostLeast(t, 3, 1, 1, 3, 3, 1)
	checkMostLeast(t, -1, -3, -3, -1, -2)
	checkMostLeast(t, 2, -2, -2, 0, 2)
	checkMostLeast(t, 0, -9, -9, 0, -1)
	checkMostLeast(t, 9, 0, 9, 0, 1)
	checkMostLeast(t, top, bottom, bottom, top)
	checkMostLeast(t, top, bottom, 0, top, -1, bottom, 1)
	checkMostLeast(t, bottom+1, bottom, bottom+1, bottom)
	checkMostLeast(t, top, top-1, top, top-1)
	checkMostLeast(t, 1<<62, greatest, greatest, 1<<62)
	for _, n := range sample() {
		checkMostLeast(t, n, n, n)
		checkMostLeast(t, n, n, n, n)
		checkMostLeast(t, top, n, top, n)
		checkMostLeast(t, n, bottom, n, bottom)
	}
}

// P10.3: the greatest and the least one at each place of a row, and in each order.
func TestMostLeastAtEachPlace(t *testing.T) {
	for size := 2; size <= 20; size++ {
		for at := range size {
			for _, each := range []int{-4, 0, 4, top - 1, bottom + 1} {
				row := slices.Repeat([]int{each}, size)
				row[at] = each + 1
				checkMostLeast(t, each+1, each, row...)
				row[at] = each - 1
				checkMostLeast(t, each, each-1, row...)
			}
		}
	}
	for _, l := range [][]int{{4, 1, 3, 2, 5}, {-4, -1, -3, -2, -5}, {0, top, bottom, -1, 1}, {7, 7, -7, -7, 0}} {
		sorted := slices.Sorted(slices.Values(l))
		orders(l, func(row []int) { checkMostLeast(t, sorted[4], sorted[0], row...) })
	}
}

// P10.3: rows of any numbers, against themselves in order.
func TestMostLeastOfAnyRows(t *testing.T) {
	r, l := rand.New(rand.NewSource(103)), sample()
	for range 3000 {
		row := make([]int, 1+r.Intn(30))
		for i := range row {
			row[i] = l[r.Intn(len(l))]
			if r.Intn(2) == 0 {
				row[i] = int(r.Uint64()) >> r.Intn(64)
			}
		}
		sorted := slices.Sorted(slices.Values(row))
		checkMostLeast(t, sorted[len(sorted)-1], sorted[0], row...)
	}
}

// P10.4: in which order numbers are added makes no difference: to the sum, and to the error.
func TestAddInAnyOrder(t *testing.T) {
	for _, l := range [][]int{{1, 20, 300, 4000, 50000}, {greatest - 3, 1, 2, 0, 0}, {greatest - 3, 1, 2, 1, 0}, {greatest, greatest, greatest, 1, 0}, {greatest, 1, -1, 0, 5}, {1 << 62, greatest, 2, 3, -4}, {1 << 61, 1 << 61, 1 << 61, 1 << 61, 0}} {
		n, e := wantedSum(l...)
		orders(l, func(row []int) { checkAdd(t, n, e, row...) })
	}
	r, l := rand.New(rand.NewSource(104)), sample()
	for range 2000 {
		row := make([]int, r.Intn(12))
		for i := range row {
			row[i] = l[r.Intn(len(l))] >> r.Intn(8)
		}
		n, e := wantedSum(row...)
		for range 4 {
			checkAdd(t, n, e, row...)
			r.Shuffle(len(row), func(i, j int) { row[i], row[j] = row[j], row[i] })
		}
	}
}

// P10.4: sums of sums are the sum of all.
func TestAddOfSums(t *testing.T) {
	for _, a := range can() {
		for _, b := range can() {
			for _, c := range []int{0, 1, 5, 1 << 40, 1 << 61, greatest} {
				want, err := wantedSum(a, b, c)
				ab, e := Add(a, b)
				if e == api.OK {
					checkAdd(t, want, err, ab, c)
				} else if err != e {
					t.Errorf("Add(%d, %d): %d, with %d: %d", a, b, e, c, err)
				}
			}
		}
	}
}

// P10.4: in which order numbers are multiplied makes no difference, of two and of three.
func TestMulInAnyOrder(t *testing.T) {
	chain := func(a, b, c int) (int, api.Errno) {
		ab, e := Mul(a, b)
		if e != api.OK {
			return 0, e
		}
		return Mul(ab, c)
	}
	l := []int{1, 2, 3, 5, 64, 1000, 1<<20 - 1, 1 << 20, 1 << 21, 1<<31 - 1, 1 << 31, 1<<31 + 1, greatest / 3, 1<<61 - 1, 1 << 61, greatest}
	for i, a := range l {
		for j, b := range l[i:] {
			for _, c := range l[i+j:] {
				made := new(big.Int).Mul(number(a), number(b))
				want, err := wanted(made.Mul(made, number(c)), a, b, c)
				orders([]int{a, b, c}, func(row []int) {
					if n, e := chain(row[0], row[1], row[2]); n != want || e != err {
						t.Errorf("%v multiplied: %d, %d; want %d, %d", row, n, e, want, err)
					}
				})
			}
		}
	}
}

// P10.4: Ceil against the least number that is found by going through all.
func TestCeilIsTheLeastNumber(t *testing.T) {
	for b := 1; b < 60; b++ {
		for a := range 300 {
			least := 0
			for b*least < a {
				least++
			}
			checkCeil(t, least, api.OK, a, b)
		}
	}
}

// P10.4: b times Ceil is not below a, b times one less is; of numbers of all sizes, without bounds.
func TestCeilIsTheLeastNumberOfAllSizes(t *testing.T) {
	for _, a := range can() {
		for _, b := range can() {
			if b == 0 {
				continue
			}
			n, e := Ceil(a, b)
			if e != api.OK || !Right(n) {
				t.Errorf("Ceil(%d, %d) = %d, %d", a, b, n, e)
			}
			there := new(big.Int).Mul(number(n), number(b))
			ahead := new(big.Int).Sub(there, number(b))
			if there.Cmp(number(a)) < 0 || n > 0 && ahead.Cmp(number(a)) >= 0 {
				t.Errorf("Ceil(%d, %d) = %d is not the least number", a, b, n)
			}
		}
	}
}

// R4: neither the numbers handed in nor the room behind them are changed or kept.
func TestNumbersAreNeitherChangedNorKept(t *testing.T) {
	room := []int{5, 3, -9, 7, greatest, 1, top, bottom}
	kept := slices.Clone(room)
	for size := range len(room) + 1 {
		Add(room[:size]...)
		Most(room[:size]...)
		Least(room[:size]...)
		if !slices.Equal(room, kept) {
			t.Fatalf("the numbers handed in are now %v", room)
		}
	}
	l := room[:2]
	checkAdd(t, 8, api.OK, l...)
	checkMostLeast(t, 5, 3, l...)
	l[0], l[1] = 40, 60
	checkAdd(t, 100, api.OK, l...)
	checkMostLeast(t, 60, 40, l...)
}

// R5: what was asked earlier makes no difference, errors neither.
func TestOneAnswer(t *testing.T) {
	for range 3 {
		checkAdd(t, 6, api.OK, 1, 2, 3)
		checkAdd(t, 0, api.ErrBig, greatest, greatest)
		checkAdd(t, 0, api.ErrArg, greatest, -1)
		checkMul(t, 6, api.OK, 2, 3)
		checkMul(t, 0, api.ErrBig, greatest, 2)
		checkMul(t, 0, api.ErrArg, -1, 0)
		checkCeil(t, 3, api.OK, 7, 3)
		checkCeil(t, 0, api.ErrArg, 7, 0)
		checkMostLeast(t, 2, -2, 2, -2)
		checkMostLeast(t, 0, 0)
	}
}
