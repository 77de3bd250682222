package rta

import (
	"math/big"
	"math/rand"
	"slices"
	"testing"

	"camshaft/api"
)

const (
	greatest = 1<<62 - 1
	latest   = 1 << 20
	top      = 1<<63 - 1
	bottom   = -1 << 63
)

// plain is rows that are right and all have a response: of several priorities, some of the same.
func plain() []Row {
	return []Row{
		{C: 3, B: 2, T: 40, D: 200, J: 1, P: 60},
		{C: 2, B: 0, T: 25, D: 100, J: 4, P: 80},
		{C: 4, B: 5, T: 70, D: 300, J: 0, P: 30},
		{C: 1, B: 1, T: 30, D: 100, J: 2, P: 60},
		{C: 5, B: 3, T: 90, D: 400, J: 9, P: 30},
		{C: 2, B: 4, T: 50, D: 250, J: 3, P: 45},
		{C: 6, B: 0, T: 99, D: 500, J: 5, P: 10},
		{C: 1, B: 0, T: 20, D: 60, J: 0, P: 99},
	}
}

func number(n int) *big.Int { return big.NewInt(int64(n)) }

func within(n, least, most int) bool { return n >= least && n <= most }

// wantRight is the chapter's words again.
func wantRight(l []Row) bool {
	right := len(l) <= 8
	for _, r := range l {
		right = right && within(r.C, 1, greatest) && within(r.B, 0, greatest) && within(r.T, 1, greatest)
		right = right && within(r.D, 1, 1<<20) && within(r.J, 0, greatest) && within(r.P, 1, 100)
	}
	return right
}

func wantRow(l []Row, i int) bool {
	return wantRight(l) && i >= 0 && i < len(l)
}

// wantNext is P14.1's words again, over numbers without bounds.
func wantNext(l []Row, i, w int) (int, api.Errno) {
	if !wantRow(l, i) || !within(w, 0, greatest) {
		return 0, api.ErrArg
	}
	sum := new(big.Int).Add(number(l[i].C), number(l[i].B))
	parts := []*big.Int{sum}
	for j, r := range l {
		if j == i || r.P < l[i].P {
			continue
		}
		reach := new(big.Int).Add(number(w), number(r.J))
		times, rest := new(big.Int).QuoRem(reach, number(r.T), new(big.Int))
		if rest.Sign() > 0 {
			times.Add(times, number(1))
		}
		slots := new(big.Int).Mul(times, number(r.C))
		parts = append(parts, reach, slots)
		sum.Add(sum, slots)
		if r.P == l[i].P {
			sum.Add(sum, number(r.C))
		}
	}
	for _, part := range parts {
		if part.Cmp(number(greatest)) > 0 {
			return 0, api.ErrBig
		}
	}
	return int(sum.Int64()), api.OK
}

// wantResponse is P14.2's words again.
func wantResponse(l []Row, i int) (int, api.Errno) {
	if !wantRow(l, i) {
		return 0, api.ErrArg
	}
	w := 0
	for {
		sum, err := wantNext(l, i, w)
		if err != api.OK {
			return 0, err
		}
		if new(big.Int).Add(number(l[i].J), number(sum)).Cmp(number(l[i].D)) > 0 {
			return 0, api.ErrTime
		}
		if sum == w {
			return l[i].J + w, api.OK
		}
		w = sum
	}
}

// wantAccept is P14.3's words again.
func wantAccept(l []Row) ([]int, int, api.Errno) {
	if !wantRight(l) {
		return nil, -1, api.ErrArg
	}
	var responses []int
	for i := range l {
		n, err := wantResponse(l, i)
		if err != api.OK {
			return nil, i, err
		}
		responses = append(responses, n)
	}
	return responses, -1, api.OK
}

func checkNext(t *testing.T, want int, err api.Errno, l []Row, i, w int) {
	t.Helper()
	if n, e := Next(l, i, w); n != want || e != err {
		t.Errorf("Next(%v, %d, %d) = %d, %d; want %d, %d", l, i, w, n, e, want, err)
	}
	if n, e := wantNext(l, i, w); n != want || e != err {
		t.Errorf("Next(%v, %d, %d) is %d, %d by the words, not %d, %d", l, i, w, n, e, want, err)
	}
}

func checkResponse(t *testing.T, want int, err api.Errno, l []Row, i int) {
	t.Helper()
	if n, e := Response(l, i); n != want || e != err {
		t.Errorf("Response(%v, %d) = %d, %d; want %d, %d", l, i, n, e, want, err)
	}
	if n, e := wantResponse(l, i); n != want || e != err {
		t.Errorf("Response(%v, %d) is %d, %d by the words, not %d, %d", l, i, n, e, want, err)
	}
}

// checkAccept asks about rows that all have responses.
func checkAccept(t *testing.T, l []Row, want ...int) {
	t.Helper()
	if responses, at, e := Accept(l); !slices.Equal(responses, want) || at != -1 || e != api.OK {
		t.Errorf("Accept(%v) = %v, %d, %d; want %v", l, responses, at, e, want)
	}
}

// checkRefused asks about rows of which one has no response.
func checkRefused(t *testing.T, at int, err api.Errno, l []Row) {
	t.Helper()
	if responses, place, e := Accept(l); len(responses) != 0 || place != at || e != err {
		t.Errorf("Accept(%v) = %v, %d, %d; want nothing, %d, %d", l, responses, place, e, at, err)
	}
}

// checkRows asks all calls about rows, right or not, against the words.
func checkRows(t *testing.T, l []Row, widths ...int) {
	t.Helper()
	if Right(l) != wantRight(l) {
		t.Errorf("Right(%v) = %v", l, Right(l))
	}
	for i := -1; i <= len(l); i++ {
		for _, w := range widths {
			want, err := wantNext(l, i, w)
			checkNext(t, want, err, l, i, w)
		}
		want, err := wantResponse(l, i)
		checkResponse(t, want, err, l, i)
	}
	responses, at, err := wantAccept(l)
	if err == api.OK {
		checkAccept(t, l, responses...)
	} else {
		checkRefused(t, at, err, l)
	}
}

// checkWrong asks about rows that are not right.
func checkWrong(t *testing.T, l []Row) {
	t.Helper()
	if Right(l) {
		t.Errorf("%v are not right", l)
	}
	for _, i := range []int{-1, 0, 1, len(l) - 1, len(l)} {
		for _, w := range []int{-1, 0, 7, greatest, 1 << 62} {
			checkNext(t, 0, api.ErrArg, l, i, w)
		}
		checkResponse(t, 0, api.ErrArg, l, i)
	}
	checkRefused(t, -1, api.ErrArg, l)
}

// checkEach asks about rows that are changed at the first, a middle and the last one, and about that one alone.
func checkEach(t *testing.T, right bool, change func(r *Row)) {
	t.Helper()
	for _, at := range []int{0, 3, 7} {
		l := plain()
		change(&l[at])
		for _, rows := range [][]Row{l, l[at : at+1], l[:at+1], l[at:]} {
			if wantRight(rows) != right {
				t.Fatalf("%v: the words say otherwise", rows)
			}
			if right {
				checkRows(t, rows, 0, 1, 50)
			} else {
				checkWrong(t, rows)
			}
		}
	}
}

// farNumbers is numbers that no part of a row can be.
func farNumbers() []int {
	return []int{-1, -2, -100, -1 << 20, -1 << 32, -greatest, -1 << 62, bottom, bottom + 1, 1 << 62, 1<<62 + 1, 1<<62 + 1<<32, top - 1, top}
}

// P14.1: no rows, up to 8, and more; one of them wrong, too, at each place.
func TestRightOfManyRows(t *testing.T) {
	if !Right(nil) || !Right([]Row{}) {
		t.Error("no rows are right")
	}
	for many := range 20 {
		l := slices.Repeat([]Row{{C: 1, T: 100, D: 100, P: 5}}, many)
		if Right(l) != (many <= 8) {
			t.Errorf("%d rows: %v", many, Right(l))
		}
		checkRows(t, l, -1, 0, 1, 100, greatest, 1<<62)
		for at := range l {
			l[at].P = 0
			checkWrong(t, l)
			l[at].P = 5
		}
	}
	checkWrong(t, make([]Row, 1))
	checkWrong(t, make([]Row, 9))
	checkWrong(t, slices.Repeat(plain(), 1<<7))
	if api.MaxTasks != 8 || api.MaxTime != 1<<20 || api.MaxNat != 1<<62 {
		t.Error("limits")
	}
}

// P14.1: the slots of a task: 1 to 2^62 - 1.
func TestRightOfC(t *testing.T) {
	for _, n := range []int{1, 2, 100, latest, 1 << 32, 1 << 61, greatest - 1, greatest} {
		checkEach(t, true, func(r *Row) { r.C = n })
	}
	for _, n := range append(farNumbers(), 0) {
		checkEach(t, false, func(r *Row) { r.C = n })
	}
}

// P14.1: what it can wait: 0 to 2^62 - 1.
func TestRightOfB(t *testing.T) {
	for _, n := range []int{0, 1, 2, 100, latest, 1 << 32, 1 << 61, greatest - 1, greatest} {
		checkEach(t, true, func(r *Row) { r.B = n })
	}
	for _, n := range farNumbers() {
		checkEach(t, false, func(r *Row) { r.B = n })
	}
}

// P14.1: periods: 1 to 2^62 - 1.
func TestRightOfT(t *testing.T) {
	for _, n := range []int{1, 2, 100, latest, latest + 1, 1 << 32, 1 << 61, greatest - 1, greatest} {
		checkEach(t, true, func(r *Row) { r.T = n })
	}
	for _, n := range append(farNumbers(), 0) {
		checkEach(t, false, func(r *Row) { r.T = n })
	}
}

// P14.1: deadlines: 1 to 2^20.
func TestRightOfD(t *testing.T) {
	for _, n := range []int{1, 2, 100, 1 << 19, latest - 1, latest} {
		checkEach(t, true, func(r *Row) { r.D = n })
	}
	for _, n := range append(farNumbers(), 0, latest+1, latest+2, 1<<21, 1<<32, 1<<32+1, greatest) {
		checkEach(t, false, func(r *Row) { r.D = n })
	}
}

// P14.1: jitters: 0 to 2^62 - 1.
func TestRightOfJ(t *testing.T) {
	for _, n := range []int{0, 1, 2, 100, latest, latest + 1, 1 << 32, 1 << 61, greatest - 1, greatest} {
		checkEach(t, true, func(r *Row) { r.J = n })
	}
	for _, n := range farNumbers() {
		checkEach(t, false, func(r *Row) { r.J = n })
	}
}

// P14.1: priorities: 1 to 100.
func TestRightOfP(t *testing.T) {
	for n := 1; n <= 100; n++ {
		checkEach(t, true, func(r *Row) { r.P = n })
	}
	for _, n := range append(farNumbers(), 0, 101, 102, 200, 1<<8+1, 1<<32, 1<<32+1, greatest) {
		checkEach(t, false, func(r *Row) { r.P = n })
	}
}

// P14.1: of two rows that each have another wrong number, and of one that has two.
func TestRightOfSeveralWrongNumbers(t *testing.T) {
	spoils := []func(r *Row){
		func(r *Row) { r.C = 0 }, func(r *Row) { r.B = -1 }, func(r *Row) { r.T = 0 },
		func(r *Row) { r.D = latest + 1 }, func(r *Row) { r.J = 1 << 62 }, func(r *Row) { r.P = 101 },
	}
	for _, one := range spoils {
		for _, other := range spoils {
			l := plain()
			one(&l[1])
			other(&l[6])
			checkWrong(t, l)
			l = plain()
			one(&l[4])
			other(&l[4])
			checkWrong(t, l)
		}
	}
}

// P14.1: rows of greater, of the same and of lower priority, on both sides of the own one.
func TestNextOfPriorities(t *testing.T) {
	own := Row{C: 7, B: 2, T: 10, D: 10, P: 50}
	for prio, want := range map[int]int{1: 9, 2: 9, 48: 9, 49: 9, 50: 9 + 3*4 + 4, 51: 9 + 3*4, 52: 9 + 3*4, 99: 9 + 3*4, 100: 9 + 3*4} {
		other := Row{C: 4, T: 10, D: 10, P: prio}
		checkNext(t, want, api.OK, []Row{own, other}, 0, 25)
		checkNext(t, want, api.OK, []Row{other, own}, 1, 25)
		checkNext(t, 2*want-9, api.OK, []Row{other, own, other}, 1, 25)
		checkNext(t, 2*want-9, api.OK, []Row{own, other, other}, 0, 25)
		checkNext(t, 2*want-9, api.OK, []Row{other, other, own}, 2, 25)
	}
	checkNext(t, 9, api.OK, []Row{own}, 0, 25)
	l := []Row{{C: 1, T: 5, D: 9, P: 51}, {C: 10, T: 9, D: 9, P: 50}, {C: 1000, T: 1, D: 9, P: 49}, own, {C: 10000, T: 1, D: 9, P: 1}, {C: 100000, T: 30, D: 9, P: 50}, {C: 1000000, T: 7, D: 9, P: 100}}
	checkNext(t, 9+1*5+10*3+10+100000+100000+1000000*4, api.OK, l, 3, 25)
	checkNext(t, 9+0+10+100000, api.OK, l, 3, 0)
}

// P14.1: the example's rows, and plain ones.
func TestNext(t *testing.T) {
	l := []Row{{C: 2, T: 10, D: 10, P: 2}, {C: 3, T: 20, D: 20, P: 1}}
	for _, w := range []int{0, 1, 5, 10, 11, greatest} {
		checkNext(t, 2, api.OK, l, 0, w)
	}
	for w, want := range map[int]int{0: 3, 1: 5, 3: 5, 5: 5, 9: 5, 10: 5, 11: 7, 20: 7, 21: 9, 100: 23, 101: 25} {
		checkNext(t, want, api.OK, l, 1, w)
	}
	checkRows(t, plain(), -1, 0, 1, 2, 9, 10, 11, 19, 20, 21, 39, 40, 41, 100, 1000, 1<<32, greatest-10, greatest-4, greatest-3, greatest, 1<<62)
}

// P14.1: w at 0, at multiples of a period and beside them, at the greatest number, and what can be no w.
func TestNextOfEachW(t *testing.T) {
	for _, period := range []int{1, 2, 3, 7, 10, 64, 1 << 20, 1 << 32} {
		l := []Row{{C: 5, B: 1, T: 9, D: 9, P: 4}, {C: 3, T: period, D: 9, P: 7}, {C: 2, T: period, D: 9, P: 4}}
		checkNext(t, 6+2, api.OK, l, 0, 0)
		checkNext(t, 6+5+2, api.OK, l, 0, 1)
		for times := 1; times < 40; times++ {
			checkNext(t, 6+5*times+2, api.OK, l, 0, times*period)
			checkNext(t, 6+5*(times+1)+2, api.OK, l, 0, times*period+1)
			if period > 1 {
				checkNext(t, 6+5*times+2, api.OK, l, 0, times*period-1)
			}
		}
		for _, w := range farNumbers() {
			checkNext(t, 0, api.ErrArg, l, 0, w)
			checkNext(t, 0, api.ErrArg, l, 1, w)
			checkNext(t, 0, api.ErrArg, l[:1], 0, w)
		}
		checkRows(t, l, greatest-1, greatest)
	}
	l := []Row{{C: 5, T: 1, D: 1, P: 4}, {C: 3, T: greatest, D: 1, P: 5}}
	checkNext(t, 5+3, api.OK, l, 0, greatest)
	checkNext(t, 5+3, api.OK, l, 0, greatest-1)
	l[1].T--
	checkNext(t, 5+6, api.OK, l, 0, greatest)
	checkNext(t, 5+3, api.OK, l, 0, greatest-1)
	checkNext(t, 5, api.OK, l[:1], 0, greatest)
	checkNext(t, 0, api.ErrArg, l[:1], 0, 1<<62)
}

// P14.1: a jitter that lifts w to a multiple, over it, and by several periods.
func TestNextOfJitters(t *testing.T) {
	for jitter, want := range map[int]int{0: 1, 1: 1, 2: 1, 3: 1, 4: 2, 5: 2, 13: 2, 14: 3, 23: 3, 24: 4, 93: 10, 94: 11, 993: 100, 994: 101} {
		for _, prio := range []int{5, 6} {
			l := []Row{{C: 20, B: 1, T: 3, D: 3, P: 5}, {C: 4, T: 10, D: 9, J: jitter, P: prio}}
			once := 0
			if prio == 5 {
				once = 4
			}
			checkNext(t, 21+4*want+once, api.OK, l, 0, 7)
			slices.Reverse(l)
			checkNext(t, 21+4*want+once, api.OK, l, 1, 7)
		}
	}
	l := []Row{{C: 1, T: 3, D: 3, P: 5}, {C: 4, T: 10, D: 9, J: 0, P: 6}, {C: 100, T: 10, D: 9, J: 5, P: 7}}
	checkNext(t, 1+0+100, api.OK, l, 0, 0)
	checkNext(t, 1+4+100, api.OK, l, 0, 5)
	checkNext(t, 1+4+200, api.OK, l, 0, 6)
	checkNext(t, 1+8+200, api.OK, l, 0, 11)
	// A jitter alone, without a w.
	l[2].J = 10
	checkNext(t, 1+100, api.OK, l, 0, 0)
	l[2].J = 11
	checkNext(t, 1+200, api.OK, l, 0, 0)
	l[2].J = greatest
	l[2].T = greatest
	checkNext(t, 1+100, api.OK, l, 0, 0)
	checkNext(t, 0, api.ErrBig, l, 0, 1)
}

// P14.1: of the own row just C and B count: no period, deadline or jitter of it, and its priority just against the others'.
func TestNextOfTheOwnRow(t *testing.T) {
	for _, n := range []int{1, 2, 1000, greatest} {
		l := []Row{{C: 4, T: 10, D: 9, J: 3, P: 6}, {C: 2, B: 3, T: n, D: min(n, latest), J: n, P: 5}}
		checkNext(t, 5+4, api.OK, l, 1, 0)
		checkNext(t, 5+4, api.OK, l, 1, 7)
		checkNext(t, 5+8, api.OK, l, 1, 8)
		checkNext(t, 5, api.OK, l[1:], 0, 8)
		checkNext(t, 5, api.OK, l[1:], 0, greatest)
	}
	checkNext(t, 8, api.OK, []Row{{C: 1, B: 7, T: 1, D: 1, P: 1}}, 0, 9)
	checkNext(t, 7, api.OK, []Row{{C: 7, B: 0, T: 1, D: 1, P: 100}}, 0, 9)
	// What another one waits is not counted.
	checkNext(t, 1+2, api.OK, []Row{{C: 1, T: 9, D: 9, P: 1}, {C: 2, B: greatest, T: 9, D: 9, P: 2}}, 0, 9)
	checkNext(t, 1+2+2, api.OK, []Row{{C: 1, T: 9, D: 9, P: 1}, {C: 2, B: greatest, T: 9, D: 9, P: 1}}, 0, 9)
}

// P14.1: nothing of a lower row counts, be it as great as can be.
func TestNextOfLowerRows(t *testing.T) {
	low := Row{C: greatest, B: greatest, T: 1, D: 1, J: greatest, P: 4}
	for _, w := range []int{0, 1, 10, greatest - 1, greatest} {
		checkNext(t, 7, api.OK, []Row{low, {C: 3, B: 4, T: 1, D: 1, P: 5}, low}, 1, w)
		checkNext(t, greatest, api.OK, []Row{low, {C: greatest, T: 1, D: 1, P: 5}, low}, 1, w)
	}
}

// P14.1: w and a jitter that come to 2^62 - 1, and to 2^62, though the sum itself is small.
func TestNextOfGreatReaches(t *testing.T) {
	for _, prio := range []int{5, 6, 100} {
		for _, jitter := range []int{0, 1, 2, 1000, 1 << 61, greatest - 1, greatest} {
			l := []Row{{C: 1, T: 1, D: 1, P: 5}, {C: 1, T: greatest, D: 1, J: jitter, P: prio}}
			want := 2
			if prio == 5 {
				want = 3
			}
			w := greatest - jitter
			checkNext(t, want, api.OK, l, 0, w)
			if w < greatest {
				checkNext(t, 0, api.ErrBig, l, 0, w+1)
				checkNext(t, 0, api.ErrBig, l, 0, greatest)
			}
			if w > 0 && jitter > 0 {
				checkNext(t, want, api.OK, l, 0, w-1)
			}
		}
	}
	// At the first, a middle and the last other row.
	for at := range 5 {
		l := slices.Repeat([]Row{{C: 1, T: greatest, D: 1, P: 6}}, 5)
		l = append(l, Row{C: 1, T: 1, D: 1, P: 5})
		l[at].J = greatest - 9
		checkNext(t, 6, api.OK, l, 5, 9)
		checkNext(t, 0, api.ErrBig, l, 5, 10)
	}
}

// P14.1: a product that comes to the greatest number less the own slot, to one more, to 2^62, and beyond 64 bits.
func TestNextOfGreatProducts(t *testing.T) {
	two := func(c, period int) []Row {
		return []Row{{C: 1, T: 1, D: 1, P: 5}, {C: c, T: period, D: 1, P: 6}}
	}
	checkNext(t, greatest, api.OK, two(1<<61-1, 10), 0, 20)
	checkNext(t, 0, api.ErrBig, two(1<<61-1, 10), 0, 21)
	checkNext(t, 0, api.ErrBig, two(1<<61, 10), 0, 20)
	checkNext(t, 1<<61+1, api.OK, two(1<<61, 10), 0, 10)
	checkNext(t, greatest, api.OK, two(greatest-1, 10), 0, 10)
	checkNext(t, 0, api.ErrBig, two(greatest, 10), 0, 10)
	checkNext(t, 1, api.OK, two(greatest, 10), 0, 0)
	checkNext(t, 0, api.ErrBig, two(greatest, 10), 0, 11)
	checkNext(t, greatest, api.OK, two(1, 1), 0, greatest-1)
	checkNext(t, 0, api.ErrBig, two(1, 1), 0, greatest)
	// 2^62 - 1 is 3 times this.
	checkNext(t, 0, api.ErrBig, two(greatest/3, 10), 0, 30)
	// Products whose lower 64 bits look small.
	checkNext(t, 0, api.ErrBig, two(1<<61, 1), 0, 8)
	checkNext(t, 0, api.ErrBig, two(1<<61, 1), 0, 16)
	checkNext(t, 0, api.ErrBig, two(1<<32, 1), 0, 1<<32)
	checkNext(t, 0, api.ErrBig, two(1<<32, 1), 0, 1<<30)
	checkNext(t, 1<<61+1, api.OK, two(1<<32, 1), 0, 1<<29)
	checkNext(t, 0, api.ErrBig, two(greatest, 1), 0, greatest)
	checkNext(t, 0, api.ErrBig, two(1<<61+1, 1), 0, 8)
	for size := range 62 {
		for off := -1; off <= 1; off++ {
			l := two(1<<size, 1)
			checkRows(t, l, 1<<(62-size)+off, 1<<(64-size)%greatest)
		}
	}
}

// P14.1: sums of some, and of all, that come to 2^62 - 1 and to 2^62.
func TestNextOfGreatSums(t *testing.T) {
	checkNext(t, greatest, api.OK, []Row{{C: greatest, T: 1, D: 1, P: 5}}, 0, 0)
	checkNext(t, 0, api.ErrBig, []Row{{C: greatest, B: 1, T: 1, D: 1, P: 5}}, 0, 0)
	checkNext(t, greatest, api.OK, []Row{{C: 1, B: greatest - 1, T: 1, D: 1, P: 5}}, 0, 0)
	checkNext(t, 0, api.ErrBig, []Row{{C: 1, B: greatest, T: 1, D: 1, P: 5}}, 0, 0)
	checkNext(t, 0, api.ErrBig, []Row{{C: greatest, B: greatest, T: 1, D: 1, P: 5}}, 0, 0)
	// Several rows, each of them small against the bound; what is left of it is the own C, or the own B.
	for many := 1; many <= 7; many++ {
		part := greatest / (many + 1)
		for _, prio := range []int{6, 7} {
			l := slices.Repeat([]Row{{C: part, T: 10, D: 1, P: prio}}, many)
			rest := greatest - many*part
			for at := 0; at <= many; at++ {
				own := Row{C: rest, T: 1, D: 1, P: 5}
				checkNext(t, greatest, api.OK, slices.Insert(slices.Clone(l), at, own), at, 10)
				own.C++
				checkNext(t, 0, api.ErrBig, slices.Insert(slices.Clone(l), at, own), at, 10)
				own.C, own.B = 1, rest-1
				checkNext(t, greatest, api.OK, slices.Insert(slices.Clone(l), at, own), at, 10)
				own.B++
				checkNext(t, 0, api.ErrBig, slices.Insert(slices.Clone(l), at, own), at, 10)
			}
		}
	}
	// Sums of four that would look small again, cut to 64 bits.
	l := slices.Repeat([]Row{{C: 1 << 61, T: 10, D: 1, P: 6}}, 7)
	l = append(l, Row{C: 1 << 61, T: 10, D: 1, P: 5})
	checkNext(t, 0, api.ErrBig, l, 7, 10)
	checkNext(t, 0, api.ErrBig, l, 7, 20)
	l[7].B = 1 << 61
	checkNext(t, 0, api.ErrBig, l, 7, 10)
	checkNext(t, 0, api.ErrBig, l, 7, 0)
}

// P14.1: the one more C of a row of the same priority, that comes to 2^62 - 1 and to 2^62.
func TestNextOfOneMore(t *testing.T) {
	two := func(own, c int) []Row {
		return []Row{{C: own, T: 1, D: 1, P: 5}, {C: c, T: 10, D: 1, P: 5}}
	}
	checkNext(t, greatest, api.OK, two(1, greatest-1), 0, 0)
	checkNext(t, 0, api.ErrBig, two(2, greatest-1), 0, 0)
	checkNext(t, 0, api.ErrBig, two(1, greatest), 0, 0)
	checkNext(t, 0, api.ErrBig, two(1, greatest), 0, 1)
	checkNext(t, 0, api.ErrBig, two(1, greatest-1), 0, 1)
	checkNext(t, greatest, api.OK, two(1, 1<<61-1), 0, 10)
	checkNext(t, 0, api.ErrBig, two(2, 1<<61-1), 0, 10)
	checkNext(t, 0, api.ErrBig, two(1, 1<<61), 0, 10)
	checkNext(t, greatest, api.OK, two(1<<61-1, 1<<60), 0, 10)
	checkNext(t, 0, api.ErrBig, two(1<<61, 1<<60), 0, 10)
	// Both C are the same, the other way round.
	checkNext(t, 1<<61-1+2, api.OK, two(1, 1<<61-1), 1, 1)
	checkNext(t, 7+3*2, api.OK, two(3, 7), 1, 1)
	checkNext(t, 3+7*2, api.OK, two(3, 7), 0, 1)
	checkNext(t, 3+7, api.OK, two(3, 7), 0, 0)
	// Several of the same priority: once more each.
	l := []Row{{C: 1, T: 10, D: 1, P: 5}, {C: 20, T: 10, D: 1, P: 5}, {C: 300, T: 10, D: 1, P: 5}, {C: 4000, T: 10, D: 1, P: 5}}
	checkNext(t, 1+4320, api.OK, l, 0, 0)
	checkNext(t, 20+2*4301, api.OK, l, 1, 10)
	checkNext(t, 300+3*4021, api.OK, l, 2, 11)
	checkNext(t, 4000+4*321, api.OK, l, 3, 21)
}

// P14.1, P14.2: rows that are not there.
func TestNoSuchRow(t *testing.T) {
	for many := range 9 {
		l := plain()[:many]
		for _, i := range []int{-1, -2, -8, many, many + 1, 8, 9, 1 << 32, -1 << 32, greatest, top, bottom} {
			for _, w := range []int{-1, 0, 5, greatest, 1 << 62} {
				checkNext(t, 0, api.ErrArg, l, i, w)
			}
			checkResponse(t, 0, api.ErrArg, l, i)
		}
	}
	for _, l := range [][]Row{nil, {}} {
		checkNext(t, 0, api.ErrArg, l, 0, 0)
		checkResponse(t, 0, api.ErrArg, l, 0)
	}
}

// P14.1, P14.2, P14.3: ErrArg goes ahead of what else is wrong.
func TestWrongArgumentsFirst(t *testing.T) {
	big := Row{C: greatest, B: greatest, T: 1, D: 1, J: greatest, P: 5}
	checkNext(t, 0, api.ErrBig, []Row{big}, 0, 0)
	checkNext(t, 0, api.ErrArg, []Row{big}, 0, -1)
	checkNext(t, 0, api.ErrArg, []Row{big}, 0, 1<<62)
	checkNext(t, 0, api.ErrArg, []Row{big}, 1, 0)
	late := Row{C: 9, T: 1, D: 1, P: 6}
	wrong := []Row{{C: 0, T: 1, D: 1, P: 1}, {C: 1, T: 1, D: 1, P: 101}, {C: 1, B: -1, T: 1, D: 1, P: 4}}
	for _, other := range []Row{big, late} {
		for _, w := range wrong {
			checkWrong(t, []Row{other, w})
			checkWrong(t, []Row{w, other})
			checkWrong(t, []Row{other, w, other})
		}
		checkWrong(t, slices.Repeat([]Row{other}, 9))
	}
	checkRefused(t, 0, api.ErrBig, []Row{big, late})
	checkRefused(t, 0, api.ErrTime, []Row{late, big})
}

// P14.2: rows that end at once: nothing goes ahead of them.
func TestResponseThatEndsAtOnce(t *testing.T) {
	checkResponse(t, 1, api.OK, []Row{{C: 1, T: 1, D: 1, P: 1}}, 0)
	checkResponse(t, 12, api.OK, []Row{{C: 5, B: 4, T: 1, D: 12, J: 3, P: 1}}, 0)
	checkResponse(t, 0, api.ErrTime, []Row{{C: 5, B: 4, T: 1, D: 11, J: 3, P: 1}}, 0)
	checkResponse(t, latest, api.OK, []Row{{C: latest, T: 1, D: latest, P: 1}}, 0)
	checkResponse(t, 0, api.ErrTime, []Row{{C: latest + 1, T: 1, D: latest, P: 1}}, 0)
	checkResponse(t, latest, api.OK, []Row{{C: 1, B: latest - 1, T: 1, D: latest, P: 1}}, 0)
	checkResponse(t, 0, api.ErrTime, []Row{{C: 1, B: latest, T: 1, D: latest, P: 1}}, 0)
	l := []Row{{C: 2, T: 10, D: 10, P: 2}, {C: 3, T: 20, D: 20, P: 1}}
	checkResponse(t, 2, api.OK, l, 0)
	checkResponse(t, 5, api.OK, l, 1)
	// Of the same priority: once more, both ways.
	l[1].P = 2
	checkResponse(t, 2+3+3, api.OK, l, 0)
	checkResponse(t, 3+2+2, api.OK, l, 1)
}

// P14.2: responses behind several sums, with the deadline at the sum and one below it.
func TestResponseBehindSeveralSums(t *testing.T) {
	for _, c := range []struct {
		want int
		l    []Row
	}{
		{100, []Row{{C: 50, T: 1, P: 1}, {C: 1, T: 2, P: 2}}},                                               // 50 75 88 94 97 99 100
		{114, []Row{{C: 62, T: 100, P: 1}, {C: 26, T: 70, P: 9}}},                                           // 62 88 114
		{20, []Row{{C: 5, T: 20, P: 1}, {C: 3, T: 12, P: 2}, {C: 3, T: 7, P: 3}}},                           // 5 11 14 17 20
		{21, []Row{{C: 5, B: 1, T: 20, P: 1}, {C: 3, T: 12, P: 2}, {C: 3, T: 7, P: 3}}},                     // 6 12 15 21
		{latest, []Row{{C: latest / 2, T: 1, P: 1}, {C: 1, T: 2, P: 2}}},                                    // 20 sums
		{2047, []Row{{C: 1, T: 1, P: 1}, {C: 1023, T: 1024, J: 1, P: 2}}},                                   // 1024 2047
		{60, []Row{{C: 10, T: 1, P: 50}, {C: 10, T: 30, P: 50}, {C: 5, T: 15, P: 51}, {C: 9, T: 1, P: 49}}}, // with one of the same, one above, one below
	} {
		l := slices.Clone(c.l)
		for i := range l {
			l[i].D = latest
		}
		for _, deadline := range []int{c.want, c.want + 1, latest} {
			l[0].D = min(deadline, latest)
			checkResponse(t, c.want, api.OK, l, 0)
		}
		for _, deadline := range []int{c.want - 1, c.want - 2, c.want / 2, 1} {
			l[0].D = deadline
			checkResponse(t, 0, api.ErrTime, l, 0)
		}
	}
}

// P14.2: J and the sum, just at the deadline and one above it; the own J is in no sum.
func TestResponseAndItsJitter(t *testing.T) {
	for _, sum := range []int{1, 2, 10, 77} {
		for jitter := range 200 {
			l := []Row{{C: sum, T: 1, D: sum + jitter, J: jitter, P: 1}}
			checkResponse(t, sum+jitter, api.OK, l, 0)
			l[0].J++
			checkResponse(t, 0, api.ErrTime, l, 0)
			l[0].J--
			l[0].C++
			checkResponse(t, 0, api.ErrTime, l, 0)
		}
	}
	l := []Row{{C: 50, T: 1, D: 107, J: 7, P: 1}, {C: 1, T: 2, D: 1, P: 2}}
	checkResponse(t, 107, api.OK, l, 0)
	l[0].D = 106
	checkResponse(t, 0, api.ErrTime, l, 0)
	l[0].D, l[0].J = latest, latest-100
	checkResponse(t, latest, api.OK, l, 0)
	l[0].J++
	checkResponse(t, 0, api.ErrTime, l, 0)
	// The others' jitters are in the sums.
	l = []Row{{C: 50, T: 1, D: latest, P: 1}, {C: 10, T: 60, D: 1, J: 0, P: 2}}
	checkResponse(t, 60, api.OK, l, 0)
	l[1].J = 1
	checkResponse(t, 70, api.OK, l, 0)
}

// P14.2: a jitter at the deadline and above it, up to the greatest.
func TestResponseOfAJitterAboveTheDeadline(t *testing.T) {
	for _, deadline := range []int{1, 5, 1000, latest} {
		for _, jitter := range []int{deadline, deadline + 1, deadline + 2, 2 * deadline, latest + 1, 1 << 32, 1 << 61, greatest - 1, greatest} {
			for _, slots := range []int{1, 2, latest, 1 << 61, greatest - 1, greatest} {
				checkResponse(t, 0, api.ErrTime, []Row{{C: slots, T: 1, D: deadline, J: jitter, P: 1}}, 0)
			}
			// Its first sum is too great: that goes ahead.
			checkResponse(t, 0, api.ErrBig, []Row{{C: greatest, B: 1, T: 1, D: deadline, J: jitter, P: 1}}, 0)
			checkResponse(t, 0, api.ErrBig, []Row{{C: 1, T: 1, D: deadline, J: jitter, P: 1}, {C: greatest, T: 1, D: 1, P: 1}}, 0)
		}
	}
}

// P14.2: ErrBig of the first sum, of a later one, and ErrTime ahead of it.
func TestResponseOfGreatSums(t *testing.T) {
	checkResponse(t, 0, api.ErrBig, []Row{{C: greatest, B: 1, T: 1, D: 5, P: 1}}, 0)
	checkResponse(t, 0, api.ErrTime, []Row{{C: greatest, B: 0, T: 1, D: 5, P: 1}}, 0)
	checkResponse(t, 0, api.ErrBig, []Row{{C: 1, B: greatest, T: 1, D: 5, P: 1}}, 0)
	checkResponse(t, 0, api.ErrBig, []Row{{C: 1, T: 1, D: 5, P: 1}, {C: 2, T: 1, D: 5, J: greatest, P: 2}}, 0)
	checkResponse(t, 0, api.ErrTime, []Row{{C: 1, T: 1, D: 5, P: 1}, {C: 1, T: 1, D: 5, J: greatest - 1, P: 2}}, 0)
	// The sum for 0 is 6, that for 6 is too great.
	second := []Row{{C: 5, T: 1, D: 6, P: 5}, {C: 1, T: greatest, D: 1, J: greatest, P: 6}}
	checkResponse(t, 0, api.ErrBig, second, 0)
	second[0].D = 5
	checkResponse(t, 0, api.ErrTime, second, 0)
	second[0].D, second[0].J = 7, 1
	checkResponse(t, 0, api.ErrBig, second, 0)
	second[0].J = 2
	checkResponse(t, 0, api.ErrTime, second, 0)
	// The sums are 6, 7, and then too great.
	third := []Row{{C: 5, T: 1, D: 7, P: 5}, {C: 1, T: 100, D: 1, P: 6}, {C: 1, T: greatest, D: 1, J: greatest - 6, P: 7}}
	checkNext(t, 6, api.OK, third, 0, 0)
	checkNext(t, 7, api.OK, third, 0, 6)
	checkNext(t, 0, api.ErrBig, third, 0, 7)
	checkResponse(t, 0, api.ErrBig, third, 0)
	for deadline := 1; deadline <= 6; deadline++ {
		third[0].D = deadline
		checkResponse(t, 0, api.ErrTime, third, 0)
	}
	third[0].D = latest
	checkResponse(t, 0, api.ErrBig, third, 0)
	third[2].J--
	checkResponse(t, 7, api.OK, third, 0)
	// A product is too great, once w is above a period.
	product := []Row{{C: 5, T: 1, D: 100, P: 5}, {C: 6, T: 10, D: 1, P: 6}, {C: 1 << 61, T: 10, D: 1, P: 4}, {C: 1 << 60, T: 11, D: 1, P: 7}}
	checkResponse(t, 0, api.ErrTime, product, 0)
	checkResponse(t, 0, api.ErrTime, product, 2)
	product[2].B = 1<<62 - 1<<61
	checkResponse(t, 0, api.ErrBig, product, 2)
}

// P14.2: the period of the own row makes no difference, nor do rows below it and others' deadlines.
func TestResponseHangsOnNothingElse(t *testing.T) {
	r := rand.New(rand.NewSource(142))
	for i, own := range plain() {
		want, err := Response(plain(), i)
		for range 200 {
			l := plain()
			l[i].T = 1 + r.Intn(greatest)
			for j := range l {
				if j != i {
					l[j].D, l[j].B = 1+r.Intn(latest), r.Intn(1<<62)
				}
				if l[j].P < own.P {
					l[j].C, l[j].T, l[j].J, l[j].P = 1+r.Intn(greatest), 1+r.Intn(greatest), r.Intn(1<<62), 1+r.Intn(own.P-1)
				}
			}
			checkResponse(t, want, err, l, i)
		}
	}
}

// P14.2: 2^20 sums that each rise by one end.
func TestResponseOfManySums(t *testing.T) {
	l := []Row{{C: 1, T: latest, D: latest, P: 1}, {C: 1, T: 1, D: 1, P: 2}}
	checkResponse(t, 0, api.ErrTime, l, 0)
	l[0].J = latest - 1000
	checkResponse(t, 0, api.ErrTime, l, 0)
}

// P14.3: no rows, and rows that all have responses.
func TestAccept(t *testing.T) {
	checkAccept(t, nil)
	checkAccept(t, []Row{})
	checkAccept(t, []Row{{C: 1, T: 1, D: 1, P: 1}}, 1)
	checkAccept(t, []Row{{C: 2, T: 10, D: 10, P: 2}, {C: 3, T: 20, D: 20, P: 1}}, 2, 5)
	checkAccept(t, []Row{{C: 3, T: 20, D: 20, P: 1}, {C: 2, T: 10, D: 10, P: 2}}, 5, 2)
	checkAccept(t, []Row{{C: 4, T: 9, D: 9, J: 5, P: 3}, {C: 5, T: 40, D: 40, P: 2}}, 9, 13)
	checkAccept(t, plain(), wantedOfPlain()...)
	checkRows(t, plain())
}

// wantedOfPlain is the responses of plain rows, by the words.
func wantedOfPlain() []int {
	var responses []int
	for i := range plain() {
		n, _ := wantResponse(plain(), i)
		responses = append(responses, n)
	}
	return responses
}

// P14.3: all choices of rows that come too late, or whose sum is too great: the first one is told, and no numbers.
func TestAcceptTellsTheFirst(t *testing.T) {
	wanted := wantedOfPlain()
	for choice := range 3 * 3 * 3 * 3 * 3 * 3 * 3 * 3 {
		l := plain()
		first, err := -1, api.OK
		left := choice
		for i := range l {
			// What a row waits is its own alone, so the others keep their responses.
			kind := left % 3
			left /= 3
			switch kind {
			case 1:
				l[i].B = l[i].D
			case 2:
				l[i].B = greatest
			}
			if kind > 0 && first < 0 {
				first, err = i, api.ErrTime
				if kind == 2 {
					err = api.ErrBig
				}
			}
		}
		if first < 0 {
			checkAccept(t, l, wanted...)
		} else {
			checkRefused(t, first, err, l)
		}
	}
}

// P14.3: a first, a middle and a last row whose deadline is one below its response, and just at it.
func TestAcceptAtTheDeadlines(t *testing.T) {
	wanted := wantedOfPlain()
	at := plain()
	for i := range at {
		at[i].D = wanted[i]
	}
	checkAccept(t, at, wanted...)
	for i := range at {
		if wanted[i] > 1 {
			l := slices.Clone(at)
			l[i].D--
			checkRefused(t, i, api.ErrTime, l)
			l[7].B = latest
			checkRefused(t, i, api.ErrTime, l)
		}
		l := slices.Clone(at)
		l[i].B = greatest
		checkRefused(t, i, api.ErrBig, l)
	}
}

// P14.3: rows that are not right: -1, and ErrArg, be they first, in the middle or last, with those that have no response around them.
func TestAcceptOfWrongRows(t *testing.T) {
	checkRefused(t, -1, api.ErrArg, make([]Row, 9))
	checkRefused(t, -1, api.ErrArg, append(plain(), plain()[0]))
	for i := range plain() {
		l := plain()
		l[i].C = 0
		checkRefused(t, -1, api.ErrArg, l)
		l[0].B = latest
		checkRefused(t, -1, api.ErrArg, l)
		l[7].B = greatest
		checkRefused(t, -1, api.ErrArg, l)
	}
}

// some is rows that are right; most of them have responses.
func some(r *rand.Rand) []Row {
	prios, period := 1+r.Intn(100), 4+r.Intn(1<<(2+r.Intn(12)))
	l := make([]Row, r.Intn(9))
	for i := range l {
		times := 1 + r.Intn(2*period)
		l[i] = Row{C: 1 + r.Intn(1+times/(1+len(l))), T: times, D: min(latest, 1+r.Intn(8*period)), P: 1 + r.Intn(prios)}
		if r.Intn(2) == 0 {
			l[i].B = r.Intn(1 + times/4)
		}
		if r.Intn(2) == 0 {
			l[i].J = r.Intn(1 + times/4)
		}
	}
	return l
}

// spoil changes one number of a row, most often to one that it can be.
func spoil(r *rand.Rand, row *Row) {
	numbers := []int{-1, 0, 1, 2, 99, 100, 101, latest - 1, latest, latest + 1, 1 << 60, 1 << 61, greatest - latest, greatest - 10, greatest - 1, greatest, 1 << 62, top, bottom}
	n := numbers[r.Intn(len(numbers))]
	if r.Intn(3) == 0 {
		n = r.Intn(1<<62) >> r.Intn(62)
	}
	switch r.Intn(7) {
	case 0, 6:
		row.C = n
	case 1:
		row.B = n
	case 2:
		row.T = n
	case 3:
		row.D = n
	case 4:
		row.J = n
	case 5:
		row.P = n
	}
}

// P14.1, P14.2, P14.3: many rows that are right, against the words.
func TestManyRows(t *testing.T) {
	r := rand.New(rand.NewSource(14))
	accepted, late := 0, 0
	for range 4000 {
		l := some(r)
		if !wantRight(l) {
			t.Fatalf("%v", l)
		}
		checkRows(t, l, -1, 0, r.Intn(100), r.Intn(1<<20), r.Intn(1<<62)>>r.Intn(62), greatest, 1<<62)
		switch _, _, err := Accept(l); err {
		case api.OK:
			accepted++
		case api.ErrTime:
			late++
		}
	}
	if accepted < 500 || late < 500 {
		t.Errorf("%d accepted, %d late", accepted, late)
	}
}

// P14.1, P14.2, P14.3: rows near to such: great numbers, and numbers that can't be.
func TestRowsNearToRightOnes(t *testing.T) {
	r := rand.New(rand.NewSource(141))
	told := map[api.Errno]int{}
	for range 8000 {
		l := some(r)
		for range 1 + r.Intn(3) {
			if len(l) > 0 {
				spoil(r, &l[r.Intn(len(l))])
			}
		}
		checkRows(t, l, 0, r.Intn(1000), r.Intn(1<<62)>>r.Intn(62), greatest-r.Intn(1<<r.Intn(30)), greatest)
		_, _, err := Accept(l)
		told[err]++
	}
	for _, err := range []api.Errno{api.OK, api.ErrArg, api.ErrTime, api.ErrBig} {
		if told[err] < 200 {
			t.Errorf("just %d times %d", told[err], err)
		}
	}
}

// P14.1, P14.2, P14.3: all rows of one and of two of small numbers, and of three of fewer.
func TestAllSmallRows(t *testing.T) {
	var each, few []Row
	for bits := range 64 {
		r := Row{C: 1 + bits&1, B: bits >> 1 & 1, T: 1 + bits>>2&1*3, D: 3 + bits>>3&1*6, J: bits >> 4 & 1, P: 1 + bits>>5&1}
		each = append(each, r)
		if bits < 4 || bits>>1&1 == 0 && bits>>3&1 == 1 {
			few = append(few, r)
		}
	}
	for _, a := range each {
		checkRows(t, []Row{a}, -1, 0, 1, 2, 3, 4, 5)
		for _, b := range each {
			checkRows(t, []Row{a, b}, 0, 3, 4, 5)
		}
	}
	for _, a := range few {
		for _, b := range few {
			for _, c := range few {
				checkRows(t, []Row{a, b, c}, 4)
			}
		}
	}
}

// P14.4: a response less J is its own sum, and no lesser number is; where there is none, no number up to the deadline is its own sum.
func TestResponseIsTheLeastSum(t *testing.T) {
	r := rand.New(rand.NewSource(1441))
	responses, none := 0, 0
	for range 1500 {
		l := some(r)
		for i, own := range l {
			n, err := Response(l, i)
			end := own.D - own.J + 1
			if err == api.OK {
				responses++
				end = n - own.J
				if sum, e := Next(l, i, end); sum != end || e != api.OK || n > own.D {
					t.Fatalf("%v: the response of %d is %d, and the sum %d, %d", l, i, n, sum, e)
				}
			} else {
				none++
			}
			for w := range max(0, end) {
				if sum, e := Next(l, i, w); e == api.OK && sum == w {
					t.Fatalf("%v: the response of %d is %d, %d, but %d is its own sum", l, i, n, err, w)
				}
			}
		}
	}
	if responses < 1000 || none < 500 {
		t.Errorf("%d responses, %d none", responses, none)
	}
}

// checkNotShorter asks that none of the rows has a longer response, or none, where it has one with more; places are those of the rows in these.
func checkNotShorter(t *testing.T, l, more []Row, place func(i int) int) {
	t.Helper()
	for i := range l {
		with, e := Response(more, place(i))
		if e != api.OK {
			continue
		}
		if n, err := Response(l, i); err != api.OK || n > with {
			t.Fatalf("the response of %d in %v is %d, %d; in %v it is %d", i, l, n, err, more, with)
		}
	}
}

func samePlace(i int) int { return i }

// P14.4: with one slot more of each, of some, and with many more, no response is shorter.
func TestMoreSlotsMakeNothingShorter(t *testing.T) {
	r := rand.New(rand.NewSource(1442))
	for range 1500 {
		l := some(r)
		for j := range l {
			more := slices.Clone(l)
			more[j].C++
			checkNotShorter(t, l, more, samePlace)
			more = slices.Clone(l)
			more[j].B++
			checkNotShorter(t, l, more, samePlace)
			more[j].B += r.Intn(20)
			more[j].C += r.Intn(20)
			checkNotShorter(t, l, more, samePlace)
			more = slices.Clone(l)
			more[j].J++
			checkNotShorter(t, l, more, samePlace)
		}
		more := slices.Clone(l)
		for j := range l {
			more[j].C++
			more[j].B++
		}
		checkNotShorter(t, l, more, samePlace)
	}
}

// P14.4: with another task, at each place, no response is shorter.
func TestAnotherTaskMakesNothingShorter(t *testing.T) {
	r := rand.New(rand.NewSource(1443))
	for range 3000 {
		l, others := some(r), some(r)
		if len(l) == 8 || len(others) == 0 {
			continue
		}
		for at := range len(l) + 1 {
			more := slices.Insert(slices.Clone(l), at, others[0])
			checkNotShorter(t, l, more, func(i int) int {
				if i >= at {
					return i + 1
				}
				return i
			})
		}
	}
}

// R4: neither the rows handed in nor the room behind them are changed or kept.
func TestRowsAreNeitherChangedNorKept(t *testing.T) {
	for size := range 9 {
		for _, spoilt := range []bool{false, true} {
			room := plain()
			if spoilt {
				room[size/2].B = greatest
				room[7].D = 0
			}
			kept := slices.Clone(room)
			l := room[:size]
			Right(l)
			for i := -1; i <= size; i++ {
				Next(l, i, 40)
				Response(l, i)
			}
			responses, _, _ := Accept(l)
			if !slices.Equal(room, kept) {
				t.Fatalf("the rows handed in are now %v", room)
			}
			answered := slices.Clone(responses)
			clear(room)
			if !slices.Equal(responses, answered) {
				t.Fatalf("the answer hangs on the rows: %v", responses)
			}
		}
	}
	l := plain()
	checkRows(t, l, 40)
	l[2], l[5] = Row{C: 1, T: 9, D: 90, P: 100}, Row{C: 2, T: 70, D: 200, P: 60}
	checkRows(t, l, 40)
	checkRows(t, l[1:4], 40)
}

// R4: answers share no memory with each other, spare room neither.
func TestAnswersShareNothing(t *testing.T) {
	for size := range 9 {
		l := plain()[:size]
		one, _, _ := Accept(l)
		other, _, _ := Accept(l)
		want := slices.Clone(other)
		whole := one[:cap(one)]
		for k := range whole {
			whole[k] = -7
		}
		if !slices.Equal(other, want) || !slices.Equal(l, plain()[:size]) {
			t.Fatalf("the other answer is now %v, the rows are %v", other, l)
		}
		checkRows(t, l, 40)
	}
}

// R5: what was asked earlier makes no difference, errors neither.
func TestOneAnswer(t *testing.T) {
	example := []Row{{C: 2, T: 10, D: 10, P: 2}, {C: 3, T: 20, D: 20, P: 1}}
	late := []Row{{C: 2, T: 10, D: 10, P: 2}, {C: 3, T: 20, D: 4, P: 1}}
	big := []Row{{C: greatest, T: 10, D: 10, P: 2}, {C: 3, T: 20, D: 20, P: 1}}
	for range 3 {
		checkAccept(t, example, 2, 5)
		checkRefused(t, 1, api.ErrTime, late)
		checkRefused(t, 0, api.ErrTime, big)
		checkResponse(t, 0, api.ErrBig, big, 1)
		checkNext(t, 0, api.ErrBig, big, 1, 1)
		checkNext(t, 5, api.OK, example, 1, 1)
		checkResponse(t, 5, api.OK, example, 1)
		checkRefused(t, -1, api.ErrArg, make([]Row, 1))
		checkResponse(t, 2, api.OK, example, 0)
	}
}
