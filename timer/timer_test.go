package timer

import (
	"math/rand"
	"slices"
	"testing"

	"camshaft/api"
)

const (
	top    = 1<<63 - 1
	bottom = -1 << 63
	limit  = 1 << 20
)

// words is the chapter's words again: of each nominal release that was, when it is due, and whether it was told.
type words struct {
	periods  []int
	slot     int
	releases []release
}

type release struct {
	Due
	at   int
	told bool
}

func (w *words) tick(picks []int) []Due {
	taken := 0
	for task, period := range w.periods {
		if w.slot%period != 0 {
			continue
		}
		jitter := 0
		if taken < len(picks) {
			jitter = picks[taken]
			taken++
		}
		if jitter < 0 {
			jitter = 0
		}
		if jitter > 1<<20 {
			jitter = 1 << 20
		}
		w.releases = append(w.releases, release{Due: Due{task, w.slot}, at: w.slot + jitter})
	}
	due := w.inOrder(func(r release) bool { return !r.told && r.at <= w.slot })
	for k, r := range w.releases {
		if r.at <= w.slot {
			w.releases[k].told = true
		}
	}
	w.slot++
	return due
}

func (w *words) waiting() []Due {
	return w.inOrder(func(r release) bool { return !r.told })
}

// inOrder is some of the releases, by task; those of one task stand by their nominal slots already.
func (w *words) inOrder(is func(release) bool) []Due {
	var l []Due
	for task := range w.periods {
		for _, r := range w.releases {
			if r.Task == task && is(r) {
				l = append(l, r.Due)
			}
		}
	}
	return l
}

func (w *words) copy() *words {
	return &words{slices.Clone(w.periods), w.slot, slices.Clone(w.releases)}
}

func fresh(t *testing.T, periods ...int) *Timer {
	t.Helper()
	x, e := New(periods)
	if x == nil || e != api.OK {
		t.Fatalf("New(%v) = %v, %d", periods, x, e)
	}
	return x
}

func refused(t *testing.T, periods ...int) {
	t.Helper()
	if x, e := New(periods); x != nil || e != api.ErrArg {
		t.Errorf("New(%v) = %v, %d", periods, x, e)
	}
}

// dues is the releases of which each has two numbers, the task and the nominal slot.
func dues(numbers ...int) []Due {
	var l []Due
	for pair := range slices.Chunk(numbers, 2) {
		l = append(l, Due{pair[0], pair[1]})
	}
	return l
}

func checkTick(t *testing.T, x *Timer, picks []int, want ...int) {
	t.Helper()
	now := x.Now()
	if l := x.Tick(picks); !slices.Equal(l, dues(want...)) {
		t.Errorf("Tick(%v) at %d tells %v; want %v", picks, now, l, dues(want...))
	}
}

// checkState asks Waiting and Now, again and again: they change nothing.
func checkState(t *testing.T, x *Timer, now int, waiting ...int) {
	t.Helper()
	for range 2 {
		if n := x.Now(); n != now {
			t.Errorf("Now() = %d; want %d", n, now)
		}
		if l := x.Waiting(); !slices.Equal(l, dues(waiting...)) {
			t.Errorf("Waiting() at %d = %v; want %v", now, l, dues(waiting...))
		}
	}
}

// follow ticks a timer and the words with the same picks, and asks for all ahead and behind.
func follow(t *testing.T, x *Timer, w *words, picks []int) {
	t.Helper()
	sameState(t, x, w)
	if l, want := x.Tick(picks), w.tick(picks); !slices.Equal(l, want) {
		t.Fatalf("of %v, Tick(%v) at %d tells %v; want %v", w.periods, picks, w.slot-1, l, want)
	}
	sameState(t, x, w)
}

func sameState(t *testing.T, x *Timer, w *words) {
	t.Helper()
	if n := x.Now(); n != w.slot {
		t.Fatalf("of %v, Now() = %d; want %d", w.periods, n, w.slot)
	}
	if l, want := x.Waiting(), w.waiting(); !slices.Equal(l, want) {
		t.Fatalf("of %v at %d, Waiting() = %v; want %v", w.periods, w.slot, l, want)
	}
}

// skip ticks without picks, up to a slot.
func skip(x *Timer, slot int) {
	for range slot - x.Now() {
		x.Tick(nil)
	}
}

// P16.1: no periods, one to eight, and more.
func TestNewOfHowMany(t *testing.T) {
	refused(t)
	for _, none := range [][]int{nil, {}, make([]int, 0, 8)} {
		refused(t, none...)
	}
	for many := 1; many <= 8; many++ {
		x := fresh(t, slices.Repeat([]int{3}, many)...)
		checkState(t, x, 0)
		var all []int
		for task := range many {
			all = append(all, task, 0)
		}
		checkTick(t, x, nil, all...)
		checkState(t, x, 1)
	}
	for _, many := range []int{9, 10, 16, 17, 64, 256, 257, 264, 1 << 16, 1<<16 + 1} {
		refused(t, slices.Repeat([]int{3}, many)...)
	}
	if api.MaxTasks != 8 || api.MaxTime != 1<<20 || api.OK != 0 || api.ErrArg != 1 {
		t.Error("limits")
	}
}

// P16.1: periods at the edges and far from them, at each place of one to nine.
func TestNewOfPeriods(t *testing.T) {
	for many := 1; many <= 9; many++ {
		for at := range many {
			l := []int{7, 1, limit, 9, 2, 7, 5, 1000, 3}[:many]
			for _, n := range []int{0, -1, -2, -7, limit + 1, limit + 2, 1 << 21, 1 << 31, 1 << 32, 1<<32 + 1, 1<<32 + 5, -1 << 32, 1<<62 + 1, top, bottom, bottom + 1} {
				l[at] = n
				refused(t, l...)
			}
			for _, n := range []int{1, 2, 3, 1000, limit - 1, limit} {
				l[at] = n
				if many == 9 {
					refused(t, l...)
					continue
				}
				checkState(t, fresh(t, l...), 0)
			}
		}
	}
	refused(t, 0, 0)
	refused(t, 0, limit+1)
	refused(t, -1, -1, -1, -1, -1, -1, -1, -1)
	refused(t, 0, 0, 0, 0, 0, 0, 0, 0, 0)
}

// P16.1: what a timer is of: each task has its own period, at its place.
func TestNewKeepsThePlaces(t *testing.T) {
	periods := []int{6, 1, 4, 2, 12, 3, 5, 7}
	x := fresh(t, periods...)
	for slot := range 500 {
		var want []int
		for task, period := range periods {
			if slot%period == 0 {
				want = append(want, task, slot)
			}
		}
		checkTick(t, x, nil, want...)
		checkState(t, x, slot+1)
	}
}

// P16.1, P16.2: the greatest period: nothing is told at the slots between.
func TestGreatestPeriod(t *testing.T) {
	x := fresh(t, limit, limit-1, limit)
	checkTick(t, x, nil, 0, 0, 1, 0, 2, 0)
	for slot := 1; slot < limit-1; slot++ {
		if l := x.Tick(nil); len(l) != 0 {
			t.Fatalf("told at %d: %v", slot, l)
		}
	}
	checkState(t, x, limit-1)
	checkTick(t, x, nil, 1, limit-1)
	checkTick(t, x, nil, 0, limit, 2, limit)
	checkTick(t, x, nil)
	skip(x, 2*limit-2)
	checkTick(t, x, nil, 1, 2*limit-2)
	checkTick(t, x, nil)
	checkTick(t, x, []int{0, 1}, 0, 2*limit)
	checkTick(t, x, nil, 2, 2*limit)
	checkState(t, x, 2*limit+2)
}

// The chapter's example.
func TestExample(t *testing.T) {
	x := fresh(t, 2, 3)
	checkTick(t, x, nil, 0, 0, 1, 0)
	checkTick(t, x, nil)
	checkTick(t, x, nil, 0, 2)
	checkTick(t, x, nil, 1, 3)
	checkTick(t, x, nil, 0, 4)
	checkTick(t, x, nil)
	checkTick(t, x, nil, 0, 6, 1, 6)
	checkState(t, x, 7)
}

// P16.2: slots at which no, one, several and all tasks have a nominal release, with fewer, just as many and more picks than these.
func TestWhichPickIsWhose(t *testing.T) {
	for _, c := range []struct {
		slot          int
		picks         []int
		told, waiting []int
	}{
		{0, nil, []int{0, 0, 1, 0, 2, 0}, nil},
		{0, []int{}, []int{0, 0, 1, 0, 2, 0}, nil},
		{0, []int{5}, []int{1, 0, 2, 0}, []int{0, 0}},
		{0, []int{0}, []int{0, 0, 1, 0, 2, 0}, nil},
		{0, []int{0, 5}, []int{0, 0, 2, 0}, []int{1, 0}},
		{0, []int{5, 5}, []int{2, 0}, []int{0, 0, 1, 0}},
		{0, []int{0, 0, 5}, []int{0, 0, 1, 0}, []int{2, 0}},
		{0, []int{5, 0, 5}, []int{1, 0}, []int{0, 0, 2, 0}},
		{0, []int{5, 4, 3}, nil, []int{0, 0, 1, 0, 2, 0}},
		{0, []int{0, 0, 0, 5, 5}, []int{0, 0, 1, 0, 2, 0}, nil},
		{1, nil, nil, nil},
		{1, []int{5, 5, 5, 5}, nil, nil},
		{1, []int{0}, nil, nil},
		{2, nil, []int{0, 2}, nil},
		{2, []int{0}, []int{0, 2}, nil},
		{2, []int{5}, nil, []int{0, 2}},
		{2, []int{0, 5}, []int{0, 2}, nil},
		{2, []int{5, 0, 0}, nil, []int{0, 2}},
		{3, []int{5, 0, 0}, nil, []int{1, 3}},
		{3, []int{0, 5, 5}, []int{1, 3}, nil},
		{3, nil, []int{1, 3}, nil},
		{5, []int{5}, nil, []int{2, 5}},
		{5, []int{0, 5, 5}, []int{2, 5}, nil},
		{6, []int{5}, []int{1, 6}, []int{0, 6}},
		{6, []int{0, 5}, []int{0, 6}, []int{1, 6}},
		{6, []int{5, 5}, nil, []int{0, 6, 1, 6}},
		{6, []int{0, 0, 5}, []int{0, 6, 1, 6}, nil},
		{10, []int{5}, []int{2, 10}, []int{0, 10}},
		{10, []int{0, 5}, []int{0, 10}, []int{2, 10}},
		{10, []int{0, 0, 5}, []int{0, 10, 2, 10}, nil},
		{15, []int{5}, []int{2, 15}, []int{1, 15}},
		{15, []int{0, 5}, []int{1, 15}, []int{2, 15}},
		{30, []int{0, 5}, []int{0, 30, 2, 30}, []int{1, 30}},
		{30, []int{5, 0, 5, 5}, []int{1, 30}, []int{0, 30, 2, 30}},
	} {
		x := fresh(t, 2, 3, 5)
		skip(x, c.slot)
		checkState(t, x, c.slot)
		checkTick(t, x, c.picks, c.told...)
		checkState(t, x, c.slot+1, c.waiting...)
	}
}

// P16.2: a pick that is not taken at its slot is not taken at a later one.
func TestPicksAreOfOneSlotAlone(t *testing.T) {
	x := fresh(t, 2, 3)
	checkTick(t, x, []int{0, 0, 9, 9}, 0, 0, 1, 0)
	checkTick(t, x, []int{9, 9, 9})
	checkTick(t, x, nil, 0, 2)
	checkTick(t, x, []int{0, 9}, 1, 3)
	checkTick(t, x, []int{}, 0, 4)
	checkState(t, x, 5)
}

// P16.2: picks below 0 are 0.
func TestPicksBelow0(t *testing.T) {
	for _, pick := range []int{0, -1, -2, -limit, -limit - 1, -1 << 31, -1 << 32, bottom, bottom + 1} {
		x := fresh(t, 4, 2, 4)
		checkTick(t, x, []int{pick, 1, pick}, 0, 0, 2, 0)
		checkState(t, x, 1, 1, 0)
		checkTick(t, x, []int{pick}, 1, 0)
		checkTick(t, x, []int{pick, pick, pick}, 1, 2)
		checkTick(t, x, nil)
		checkTick(t, x, []int{1, pick, 1}, 1, 4)
		checkState(t, x, 5, 0, 4, 2, 4)
		checkTick(t, x, []int{pick, pick}, 0, 4, 2, 4)
		checkState(t, x, 6)
	}
}

// P16.2: each pick from 0 to 70 is just so many slots.
func TestSmallPicks(t *testing.T) {
	for pick := range 71 {
		x := fresh(t, 1000, 500)
		x.Tick([]int{pick})
		skip(x, pick)
		if pick > 0 {
			checkState(t, x, pick, 0, 0)
			checkTick(t, x, nil, 0, 0)
		}
		checkState(t, x, pick+1)
		skip(x, 500)
		checkTick(t, x, []int{pick + 1})
		checkState(t, x, 501, 1, 500)
		skip(x, 501+pick)
		checkState(t, x, 501+pick, 1, 500)
		checkTick(t, x, nil, 1, 500)
		checkState(t, x, 502+pick)
	}
}

// P16.2: picks at 2^20 and above are 2^20, also where 2^20 is just one more.
func TestGreatPicks(t *testing.T) {
	for _, c := range []struct{ pick, jitter int }{{limit - 1, limit - 1}, {limit, limit}, {limit + 1, limit}, {1 << 40, limit}, {top, limit}, {top - 1, limit}, {1<<32 + 3, limit}, {bottom, 0}} {
		x := fresh(t, limit, limit)
		if l := x.Tick([]int{1, c.pick}); len(l) != 1-min(c.jitter, 1) {
			t.Errorf("%d: told at once: %v", c.pick, l)
		}
		told := 0
		for slot := 1; slot <= limit; slot++ {
			for _, d := range x.Tick([]int{limit, limit}) {
				want := c.jitter
				if d.Task == 0 {
					want = 1
				}
				if d.Nominal != 0 || slot != want {
					t.Errorf("pick %d: %v is told at %d; want %d", c.pick, d, slot, want)
				}
				told++
			}
		}
		if told != 1+min(c.jitter, 1) {
			t.Errorf("pick %d: %d were told later", c.pick, told)
		}
		checkState(t, x, limit+1, 0, limit, 1, limit)
	}
}

// P16.2, P16.3: a jitter longer than the period: several of one task wait, and later ones are due ahead of earlier ones.
func TestJittersLongerThanThePeriod(t *testing.T) {
	x := fresh(t, 2, 100)
	checkTick(t, x, []int{11, 6})
	checkState(t, x, 1, 0, 0, 1, 0)
	checkTick(t, x, []int{1, 1})
	checkTick(t, x, []int{3})
	checkState(t, x, 3, 0, 0, 0, 2, 1, 0)
	checkTick(t, x, nil)
	checkState(t, x, 4, 0, 0, 0, 2, 1, 0)
	checkTick(t, x, []int{2})
	checkState(t, x, 5, 0, 0, 0, 2, 0, 4, 1, 0)
	checkTick(t, x, nil, 0, 2)
	checkState(t, x, 6, 0, 0, 0, 4, 1, 0)
	checkTick(t, x, []int{0}, 0, 4, 0, 6, 1, 0)
	checkState(t, x, 7, 0, 0)
	checkTick(t, x, nil)
	checkTick(t, x, []int{3})
	checkState(t, x, 9, 0, 0, 0, 8)
	checkTick(t, x, nil)
	checkTick(t, x, nil, 0, 10)
	checkState(t, x, 11, 0, 0, 0, 8)
	checkTick(t, x, nil, 0, 0, 0, 8)
	checkState(t, x, 12)
	checkTick(t, x, nil, 0, 12)
}

// P16.2: those that are due at the same slot stand by Task, and of the same by Nominal, whichever began to wait first.
func TestOrderOfWhatIsDueAtOnce(t *testing.T) {
	x := fresh(t, 3, 1, 2)
	checkTick(t, x, []int{6, 6, 6})
	checkTick(t, x, []int{5})
	checkTick(t, x, []int{4, 4})
	checkTick(t, x, []int{3, 3})
	checkTick(t, x, []int{2, 2})
	checkTick(t, x, []int{1})
	checkState(t, x, 6, 0, 0, 0, 3, 1, 0, 1, 1, 1, 2, 1, 3, 1, 4, 1, 5, 2, 0, 2, 2, 2, 4)
	checkTick(t, x, nil, 0, 0, 0, 3, 0, 6, 1, 0, 1, 1, 1, 2, 1, 3, 1, 4, 1, 5, 1, 6, 2, 0, 2, 2, 2, 4, 2, 6)
	checkState(t, x, 7)
}

// P16.2: the order is by numbers, also where numbers have more digits than others.
func TestOrderIsByNumbers(t *testing.T) {
	x := fresh(t, 1)
	var all []int
	for slot := range 130 {
		checkTick(t, x, []int{130 - slot})
		all = append(all, 0, slot)
		checkState(t, x, slot+1, all...)
	}
	checkTick(t, x, nil, append(all, 0, 130)...)
	checkState(t, x, 131)
}

// P16.2: eight tasks, each pick of these waits or does not: all choices at slot 0.
func TestAllChoicesOfEightAtOnce(t *testing.T) {
	for choice := range 1 << 8 {
		x := fresh(t, 9, 9, 9, 9, 9, 9, 9, 9)
		var picks, told, waiting []int
		for task := range 8 {
			late := choice >> task & 1
			picks = append(picks, late)
			if late == 1 {
				waiting = append(waiting, task, 0)
			} else {
				told = append(told, task, 0)
			}
		}
		checkTick(t, x, picks, told...)
		checkState(t, x, 1, waiting...)
		checkTick(t, x, picks, waiting...)
		checkState(t, x, 2)
	}
}

// eachRow calls see with all rows of so many numbers out of some.
func eachRow(many int, out []int, see func([]int)) {
	var longer func(l []int)
	longer = func(l []int) {
		if len(l) == many {
			see(l)
			return
		}
		for _, n := range out {
			longer(append(slices.Clone(l), n))
		}
	}
	longer(nil)
}

// P16.2, P16.3: all jitters from 0 to 3 of the six releases of two tasks within four slots.
func TestAllSmallJitters(t *testing.T) {
	eachRow(6, []int{0, 1, 2, 3}, func(l []int) {
		x, w := fresh(t, 1, 2), &words{periods: []int{1, 2}}
		for _, picks := range [][]int{l[:2], l[2:3], l[3:5], l[5:], nil, nil, nil, nil} {
			follow(t, x, w, picks)
		}
	})
}

// P16.2, P16.3: all periods from 1 to 4 of up to three tasks, with jitters that stand at each slot anew.
func TestAllSmallPeriods(t *testing.T) {
	for many := 1; many <= 3; many++ {
		eachRow(many, []int{1, 2, 3, 4}, func(periods []int) {
			for shift := range 12 {
				x, w := fresh(t, periods...), &words{periods: periods}
				for slot := range 30 {
					picks := []int{(slot*5 + shift) % 7, (slot*3 + shift) % 11, (slot + shift) % 4, 9}
					follow(t, x, w, picks[:(slot+shift)%5])
				}
			}
		})
	}
}

// somePeriods is one to eight periods, of which most are small.
func somePeriods(r *rand.Rand) []int {
	l := make([]int, 1+r.Intn(8))
	most := 1 + r.Intn(1+r.Intn(40))
	for k := range l {
		l[k] = 1 + r.Intn(most)
		if r.Intn(9) == 0 {
			l[k] = limit - r.Intn(3)
		}
	}
	return l
}

// somePicks is up to eleven picks, below most and below 0, and some that are very great.
func somePicks(r *rand.Rand, most int) []int {
	var l []int
	for range r.Intn(12) {
		pick := r.Intn(most+3) - 3
		switch r.Intn(40) {
		case 0:
			pick = bottom + r.Intn(3)
		case 1:
			pick = limit + r.Intn(3) - 1
		case 2:
			pick = top - r.Intn(3)
		}
		l = append(l, pick)
	}
	return l
}

// P16.2, P16.3: many periods and picks, against the words.
func TestMany(t *testing.T) {
	r := rand.New(rand.NewSource(162))
	for range 400 {
		periods := somePeriods(r)
		x, w := fresh(t, periods...), &words{periods: periods}
		most := 1 + r.Intn(60)
		for range 90 {
			follow(t, x, w, somePicks(r, most))
		}
	}
}

// P16.3: Waiting and Now of a new timer: the release that is nominal at its slot was not yet.
func TestWaitingAndNowOfANewOne(t *testing.T) {
	for _, periods := range [][]int{{1}, {limit}, {1, 1, 1, 1, 1, 1, 1, 1}, {3, 4}} {
		checkState(t, fresh(t, periods...), 0)
	}
}

// P16.3: what is nominal at the slot of the next Tick does not wait ahead of it.
func TestWaitingIsOfWhatWas(t *testing.T) {
	x := fresh(t, 3, 5)
	checkTick(t, x, []int{4, 9})
	checkState(t, x, 1, 0, 0, 1, 0)
	skip(x, 3)
	checkState(t, x, 3, 0, 0, 1, 0)
	checkTick(t, x, []int{7})
	checkState(t, x, 4, 0, 0, 0, 3, 1, 0)
	checkTick(t, x, nil, 0, 0)
	checkState(t, x, 5, 0, 3, 1, 0)
	checkTick(t, x, []int{1})
	checkState(t, x, 6, 0, 3, 1, 0, 1, 5)
	checkTick(t, x, []int{0}, 0, 6, 1, 5)
	checkState(t, x, 7, 0, 3, 1, 0)
	checkTick(t, x, nil)
	checkTick(t, x, nil)
	checkTick(t, x, nil, 0, 9, 1, 0)
	checkTick(t, x, nil, 0, 3, 1, 10)
	checkState(t, x, 11)
}

func copied(t *testing.T, x *Timer) *Timer {
	t.Helper()
	c := x.Copy()
	if c == nil || c == x {
		t.Fatalf("Copy of %p is %p", x, c)
	}
	return c
}

// P16.3: a Copy of a new timer: both go on apart.
func TestCopyOfANewOne(t *testing.T) {
	x := fresh(t, 2, 3)
	c := copied(t, x)
	checkState(t, c, 0)
	checkTick(t, c, []int{1}, 1, 0)
	checkState(t, c, 1, 0, 0)
	checkState(t, x, 0)
	checkTick(t, x, []int{0, 5}, 0, 0)
	checkState(t, x, 1, 1, 0)
	checkTick(t, c, nil, 0, 0)
	checkTick(t, c, nil, 0, 2)
	checkState(t, x, 1, 1, 0)
	checkTick(t, x, nil)
	checkTick(t, x, nil, 0, 2)
	checkState(t, x, 3, 1, 0)
	checkState(t, c, 3)
}

// P16.3: a Copy of one in which releases wait, several at the same slot: what one tells, or adds, the other does not.
func TestCopyOfWhatWaits(t *testing.T) {
	x := fresh(t, 1, 2)
	checkTick(t, x, []int{5, 5})
	checkTick(t, x, []int{4})
	checkTick(t, x, []int{3, 6})
	waiting := []int{0, 0, 0, 1, 0, 2, 1, 0, 1, 2}
	c := copied(t, x)
	checkState(t, c, 3, waiting...)
	d := copied(t, c)
	checkTick(t, c, []int{2})
	checkTick(t, c, []int{1, 1})
	checkState(t, c, 5, 0, 0, 0, 1, 0, 2, 0, 3, 0, 4, 1, 0, 1, 2, 1, 4)
	checkState(t, x, 3, waiting...)
	checkTick(t, x, []int{9}, []int{}...)
	checkTick(t, x, []int{0, 1}, 0, 4)
	checkState(t, x, 5, 0, 0, 0, 1, 0, 2, 0, 3, 1, 0, 1, 2, 1, 4)
	checkTick(t, x, nil, 0, 0, 0, 1, 0, 2, 0, 5, 1, 0, 1, 4)
	checkState(t, c, 5, 0, 0, 0, 1, 0, 2, 0, 3, 0, 4, 1, 0, 1, 2, 1, 4)
	checkTick(t, c, nil, 0, 0, 0, 1, 0, 2, 0, 3, 0, 4, 0, 5, 1, 0, 1, 4)
	checkState(t, c, 6, 1, 2)
	checkState(t, x, 6, 0, 3, 1, 2)
	checkState(t, d, 3, waiting...)
	checkTick(t, d, nil, 0, 3)
	checkTick(t, d, nil, 0, 4, 1, 4)
	checkTick(t, d, nil, 0, 0, 0, 1, 0, 2, 0, 5, 1, 0)
	checkState(t, d, 6, 1, 2)
}

// P16.3: copies at each slot, and copies of copies, go on with the same picks and with others, each as the words do.
func TestManyCopies(t *testing.T) {
	r := rand.New(rand.NewSource(163))
	for range 60 {
		periods, most := somePeriods(r), 1+r.Intn(30)
		timers, all := []*Timer{fresh(t, periods...)}, []*words{{periods: periods}}
		for range 150 {
			k := r.Intn(len(timers))
			switch {
			case r.Intn(8) == 0 && len(timers) < 12:
				timers, all = append(timers, copied(t, timers[k])), append(all, all[k].copy())
			case r.Intn(4) == 0:
				picks := somePicks(r, most)
				for k := range timers {
					follow(t, timers[k], all[k], picks)
				}
			default:
				follow(t, timers[k], all[k], somePicks(r, most))
			}
			for k := range timers {
				sameState(t, timers[k], all[k])
			}
		}
	}
}

// P16.3: Copy changes nothing of the one that is copied.
func TestCopyChangesNothing(t *testing.T) {
	x := fresh(t, 1, 4)
	for slot := range 20 {
		before, now := x.Waiting(), x.Now()
		for range 3 {
			x.Copy()
		}
		if x.Now() != now || !slices.Equal(x.Waiting(), before) {
			t.Fatalf("at %d: %d, %v; want %d, %v", slot, x.Now(), x.Waiting(), now, before)
		}
		x.Tick([]int{slot % 5, 7})
	}
}

// strangers is what New did not give: nil, timers that were made elsewhere, and the fields of timers, new and not, at another place.
func strangers(t *testing.T) []*Timer {
	begun, idle := fresh(t, 1, 2), fresh(t, 1)
	begun.Tick([]int{3, 3})
	a, b, c := *begun, *idle, *begun.Copy()
	return []*Timer{nil, {}, new(Timer), {periods: []int{1}}, {periods: []int{1}, waiting: map[int][]Due{}}, {now: 7}, &a, &b, &c}
}

// The line ahead of P16.1: of nil, and of one that New did not give, there is nothing, again and again.
func TestOfNoTimer(t *testing.T) {
	for k, x := range strangers(t) {
		for _, picks := range [][]int{nil, {}, {0}, {1, 2, 3}, {bottom, top}, nil} {
			if l := x.Tick(picks); len(l) != 0 {
				t.Errorf("%d: Tick tells %v", k, l)
			}
			checkState(t, x, 0)
			if c := x.Copy(); c != nil {
				t.Errorf("%d: Copy: %v", k, c)
			}
		}
	}
}

// The line ahead of P16.1: a timer is not touched by what is asked of its fields at another place.
func TestFieldsElsewhereTouchNothing(t *testing.T) {
	x := fresh(t, 1, 2)
	checkTick(t, x, []int{1, 2})
	elsewhere := *x
	for range 5 {
		elsewhere.Tick([]int{4, 4})
	}
	checkState(t, x, 1, 0, 0, 1, 0)
	checkTick(t, x, nil, 0, 0, 0, 1)
	checkTick(t, x, nil, 0, 2, 1, 0, 1, 2)
}

// The line ahead of P16.1: what Copy gives is one that New gave, too.
func TestCopiesAreTimers(t *testing.T) {
	x := fresh(t, 2)
	for slot := range 9 {
		x = copied(t, x)
		if slot%2 == 0 {
			checkTick(t, x, nil, 0, slot)
		} else {
			checkTick(t, x, nil)
		}
		checkState(t, x, slot+1)
	}
}

// checkLaws ticks so often, with picks that are told for each slot, and asks that each nominal release is told once, its jitter later.
func checkLaws(t *testing.T, periods []int, slots int, picksAt func(slot int) []int) {
	t.Helper()
	x, at, told := fresh(t, periods...), map[Due]int{}, map[Due]int{}
	for slot := range slots {
		picks := picksAt(slot)
		for k, d := range nominals(periods, slot) {
			at[d] = slot
			if k < len(picks) {
				at[d] += min(max(picks[k], 0), limit)
			}
		}
		for _, d := range x.Tick(picks) {
			if due, is := at[d]; !is || due != slot {
				t.Fatalf("of %v, %v is told at %d; want %d, %v", periods, d, slot, due, is)
			}
			told[d]++
		}
	}
	waiting := x.Waiting()
	for d, due := range at {
		if due < slots && (told[d] != 1 || slices.Contains(waiting, d)) {
			t.Fatalf("of %v, %v, due at %d, was told %d times", periods, d, due, told[d])
		}
		if due >= slots && (told[d] != 0 || !slices.Contains(waiting, d)) {
			t.Fatalf("of %v, %v, due at %d, was told %d times by %d", periods, d, due, told[d], slots)
		}
	}
	if len(told)+len(waiting) != len(at) {
		t.Fatalf("of %v, %d were told, and %d wait, of %d", periods, len(told), len(waiting), len(at))
	}
}

// nominals is the nominal releases at a slot, by their tasks.
func nominals(periods []int, slot int) []Due {
	var l []Due
	for task, period := range periods {
		if slot%period == 0 {
			l = append(l, Due{task, slot})
		}
	}
	return l
}

// P16.4: each nominal release is told once, its jitter later.
func TestEachIsToldOnce(t *testing.T) {
	r := rand.New(rand.NewSource(164))
	for range 400 {
		most := 1 + r.Intn(1+r.Intn(200))
		checkLaws(t, somePeriods(r), 250, func(int) []int { return somePicks(r, most) })
	}
	checkLaws(t, []int{1, 1, 1, 1, 1, 1, 1, 1}, 500, func(int) []int { return []int{300, 299, 3, 2, 1, 0, -1, 301} })
	checkLaws(t, []int{1}, 500, func(slot int) []int { return []int{498 - slot} })
	checkLaws(t, []int{1, 2}, 500, func(slot int) []int { return []int{slot % 100, 50 - slot} })
}

// P16.4: without jitter each is told at once, and nothing ever waits.
func TestWithoutJitterAtOnce(t *testing.T) {
	r := rand.New(rand.NewSource(165))
	for range 200 {
		periods := somePeriods(r)
		x := fresh(t, periods...)
		for slot := range 200 {
			picks := make([]int, r.Intn(12))
			for k := range picks {
				picks[k] = -r.Intn(2)
			}
			if l := x.Tick(picks); !slices.Equal(l, nominals(periods, slot)) {
				t.Fatalf("of %v, told at %d: %v", periods, slot, l)
			}
			checkState(t, x, slot+1)
		}
	}
}

// P16.4, R1: more than a million wait at the same time, each is told its jitter later; a Tick does not go over all that wait.
func TestAMillionWait(t *testing.T) {
	x := fresh(t, 1, 2)
	for slot := range 2*limit + 9 {
		l := x.Tick([]int{top, limit})
		want := nominals([]int{1, 2}, slot-limit)
		if slot < limit {
			want = nil
		}
		if !slices.Equal(l, want) {
			t.Fatalf("told at %d: %v; want %v", slot, l, want)
		}
	}
	if l := x.Waiting(); len(l) != limit+limit/2 || l[0] != (Due{0, limit + 9}) || l[limit] != (Due{1, limit + 10}) {
		t.Errorf("%d wait", len(l))
	}
}

// withRoom is numbers behind which others stand, within the same memory.
func withRoom(l []int) (cut, whole []int) {
	whole = append(slices.Clone(l), 3, bottom, 77, top, 1, 1, 2)
	return whole[:len(l)], whole
}

// R4: periods that are handed in are neither changed nor kept, nor the room behind them.
func TestPeriodsAreNeitherChangedNorKept(t *testing.T) {
	for many := range 9 {
		l, whole := withRoom([]int{4, 2, 1, 3, 6, 5, 9, 8}[:many])
		before := slices.Clone(whole)
		x, _ := New(l)
		w := &words{periods: slices.Clone(l)}
		if !slices.Equal(whole, before) {
			t.Fatalf("changed: %v", whole)
		}
		for slot := range 30 * many {
			for k := range whole {
				whole[k] = 1 + (slot+k)%3
			}
			before := slices.Clone(whole)
			follow(t, x, w, []int{2, 9, 0, 4})
			x.Copy().Tick(nil)
			if !slices.Equal(whole, before) {
				t.Fatalf("changed: %v", whole)
			}
		}
	}
	bad, whole := withRoom([]int{4, 0})
	before := slices.Clone(whole)
	refused(t, bad...)
	if !slices.Equal(whole, before) {
		t.Errorf("changed: %v", whole)
	}
}

// R4: picks that are handed in are neither changed nor kept, nor the room behind them, which is not read either.
func TestPicksAreNeitherChangedNorKept(t *testing.T) {
	r := rand.New(rand.NewSource(166))
	for range 100 {
		periods := somePeriods(r)
		x, w := fresh(t, periods...), &words{periods: periods}
		for range 60 {
			picks := somePicks(r, 20)
			l, whole := withRoom(picks)
			before := slices.Clone(whole)
			follow(t, x, w, l)
			if !slices.Equal(whole, before) {
				t.Fatalf("changed: %v", whole)
			}
			for k := range whole {
				whole[k] = -99
			}
			sameState(t, x, w)
		}
	}
}

// spoil writes over an answer, and the room behind it.
func spoil(l []Due) {
	for k := range l[:cap(l)] {
		l[:cap(l)][k] = Due{-9, -99}
	}
}

// R4: no answer shares memory with the timer, nor with a copy: what is written over it changes neither.
func TestAnswersAreNotTheTimers(t *testing.T) {
	r := rand.New(rand.NewSource(167))
	for range 100 {
		periods := somePeriods(r)
		x, w := fresh(t, periods...), &words{periods: periods}
		y, v := copied(t, x), w.copy()
		for range 60 {
			picks := somePicks(r, 20)
			waiting := x.Waiting()
			spoil(x.Waiting())
			sameState(t, x, w)
			sameState(t, y, v)
			told, want := x.Tick(picks), w.tick(picks)
			if !slices.Equal(told, want) {
				t.Fatalf("told %v; want %v", told, want)
			}
			spoil(waiting)
			spoil(told)
			sameState(t, x, w)
			sameState(t, y, v)
			if r.Intn(5) == 0 {
				y, v = copied(t, x), w.copy()
			}
			follow(t, y, v, picks)
		}
	}
}

// R4: no two answers share memory, spare room too.
func TestNoTwoAnswersShareMemory(t *testing.T) {
	x := fresh(t, 1, 2, 3)
	var answers, wants [][]Due
	keep := func(l []Due) {
		answers, wants = append(answers, l), append(wants, slices.Clone(l))
	}
	for slot := range 60 {
		picks := []int{(slot * 7) % 11, slot % 5, slot % 3}
		c := x.Copy()
		keep(x.Waiting())
		keep(c.Waiting())
		keep(c.Tick(picks))
		keep(x.Tick(picks))
		keep(c.Tick(picks))
		keep(c.Waiting())
		keep(x.Waiting())
	}
	for k, l := range answers {
		if !slices.Equal(l, wants[k]) {
			t.Fatalf("answer %d became %v; want %v", k, l, wants[k])
		}
		spoil(l)
	}
	checkState(t, x, 60, viewed(x.Copy().Waiting())...)
}

// viewed is the numbers of releases, two of each.
func viewed(l []Due) []int {
	var numbers []int
	for _, d := range l {
		numbers = append(numbers, d.Task, d.Nominal)
	}
	return numbers
}

// R5: two timers with the same history answer the same, whatever other timers do between; so do answers that are asked again.
func TestOneAnswer(t *testing.T) {
	r := rand.New(rand.NewSource(168))
	for range 100 {
		periods := somePeriods(r)
		x, y, other := fresh(t, periods...), fresh(t, periods...), fresh(t, periods...)
		for range 60 {
			picks := somePicks(r, 40)
			other.Tick(somePicks(r, 40))
			a, b := x.Tick(picks), y.Tick(slices.Clone(picks))
			if !slices.Equal(a, b) || x.Now() != y.Now() {
				t.Fatalf("%v and %v", a, b)
			}
			want := x.Waiting()
			for range 3 {
				if l := y.Waiting(); !slices.Equal(l, want) {
					t.Fatalf("%v and %v", l, want)
				}
			}
		}
	}
}
