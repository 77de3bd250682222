package ready

import (
	"math/rand"
	"slices"
	"testing"

	"camshaft/api"
)

const (
	top    = 1<<63 - 1
	bottom = -1 << 63
	full   = 10000
)

// words is the chapter's words again: all that wait, as they came.
type words struct{ all []Job }

func (w *words) put(j Job) api.Errno {
	if j.Prio <= 0 || j.Prio >= 101 {
		return 1
	}
	if len(w.all) >= 10000 {
		return 4
	}
	w.all = append(w.all, j)
	return 0
}

func (w *words) best() int {
	for prio := 100; prio > 0; prio-- {
		for _, j := range w.all {
			if j.Prio == prio {
				return prio
			}
		}
	}
	return 0
}

func (w *words) take(above, pick int) (Job, bool) {
	best := w.best()
	if len(w.all) == 0 || best <= above {
		return Job{}, false
	}
	var those, others []int
	for at, j := range w.all {
		if j.Prio == best {
			those = append(those, at)
		}
	}
	number := pick % len(those)
	if number < 0 {
		number += len(those)
	}
	taken := w.all[those[number]]
	for at := range w.all {
		if at != those[number] {
			others = append(others, at)
		}
	}
	var left []Job
	for _, at := range others {
		left = append(left, w.all[at])
	}
	w.all = left
	return taken, true
}

func (w *words) copy() *words {
	return &words{slices.Clone(w.all)}
}

// jobs is those of some priorities: the tasks are numbered, the nominal slots are ten times as great.
func jobs(prios ...int) []Job {
	var l []Job
	for k, prio := range prios {
		l = append(l, Job{Task: k, Prio: prio, Nominal: 10 * k})
	}
	return l
}

// filled is a set into which some were put.
func filled(t *testing.T, l ...Job) *Set {
	t.Helper()
	s := New()
	if s == nil {
		t.Fatal("New() = nil")
	}
	for _, j := range l {
		checkPut(t, s, j, api.OK)
	}
	return s
}

// checkPut puts one in, and asks that it is the last one, or that nothing came.
func checkPut(t *testing.T, s *Set, j Job, want api.Errno) {
	t.Helper()
	before, best := s.All(), s.Best()
	if e := s.Put(j); e != want {
		t.Fatalf("Put(%v) = %d; want %d", j, e, want)
	}
	if want == api.OK {
		before, best = append(before, j), max(best, j.Prio)
	}
	checkAll(t, s, before, best)
}

// checkAll asks for all, and for the best, again and again: nothing is changed by that.
func checkAll(t *testing.T, s *Set, all []Job, best int) {
	t.Helper()
	for range 2 {
		if l := s.All(); !slices.Equal(l, all) {
			t.Fatalf("All() = %v; want %v", l, all)
		}
		if n := s.Best(); n != best {
			t.Fatalf("Best() = %d; want %d", n, best)
		}
	}
}

// checkTake takes the one that is told, and asks that the others stand as they stood.
func checkTake(t *testing.T, s *Set, above, pick int, want Job) {
	t.Helper()
	left := s.All()
	j, ok := s.Take(above, pick)
	if !ok || j != want {
		t.Fatalf("of %v, Take(%d, %d) = %v, %v; want %v", left, above, pick, j, ok, want)
	}
	at := slices.Index(left, want)
	left = slices.Delete(left, at, at+1)
	checkAll(t, s, left, bestOf(left))
}

// checkNone asks that none is taken, and nothing changed.
func checkNone(t *testing.T, s *Set, above, pick int) {
	t.Helper()
	before, best := s.All(), s.Best()
	if j, ok := s.Take(above, pick); ok || j != (Job{}) {
		t.Fatalf("of %v, Take(%d, %d) = %v, %v", before, above, pick, j, ok)
	}
	checkAll(t, s, before, best)
}

func bestOf(l []Job) int {
	return (&words{l}).best()
}

// same asks a set for all, and holds it against the words.
func same(t *testing.T, s *Set, w *words) {
	t.Helper()
	checkAll(t, s, w.all, w.best())
}

func followPut(t *testing.T, s *Set, w *words, j Job) {
	t.Helper()
	if e, want := s.Put(j), w.put(j); e != want {
		t.Fatalf("Put(%v) of %d = %d; want %d", j, len(w.all), e, want)
	}
	same(t, s, w)
}

func followTake(t *testing.T, s *Set, w *words, above, pick int) {
	t.Helper()
	before := slices.Clone(w.all)
	j, ok := s.Take(above, pick)
	if want, is := w.take(above, pick); ok != is || j != want {
		t.Fatalf("of %v, Take(%d, %d) = %v, %v; want %v, %v", before, above, pick, j, ok, want, is)
	}
	same(t, s, w)
}

// P17.1: a new set has none, and is another one at each call.
func TestNew(t *testing.T) {
	s, other := filled(t), filled(t)
	checkAll(t, s, nil, 0)
	checkNone(t, s, 0, 0)
	checkPut(t, s, Job{1, 2, 3}, api.OK)
	checkAll(t, other, nil, 0)
	checkAll(t, New(), nil, 0)
	if s == other {
		t.Error("the same set twice")
	}
}

// P17.1: a Prio of 1 to 100 is right, no other one is; the other numbers can be any.
func TestPutOfEachPrio(t *testing.T) {
	far := []int{-1 << 32, -1<<32 + 5, -1 << 31, -1000, -257, -256, -255, -128, -101, -100, 255, 256, 257, 300, 356, 1000, 1<<16 + 7, 1 << 31, 1<<31 + 50, 1 << 32, 1<<32 + 1, 1<<32 + 100, 1 << 62, top, top - 1, bottom, bottom + 1, bottom + 50}
	others := []int{0, 1, -1, 7, 8, 1 << 20, 1 << 40, top, bottom}
	s := filled(t, Job{3, 50, 4})
	for prio := -120; prio <= 220; prio++ {
		far = append(far, prio)
	}
	for _, prio := range far {
		want := api.ErrArg
		if prio >= 1 && prio <= 100 {
			want = api.OK
		}
		for k, task := range others {
			j := Job{Task: task, Prio: prio, Nominal: others[(k+prio&7)%len(others)]}
			checkPut(t, s, j, want)
			checkPut(t, New(), j, want)
		}
	}
	if api.OK != 0 || api.ErrArg != 1 || api.ErrBig != 4 || api.ErrNil != 15 {
		t.Error("errors")
	}
}

// P17.1: the edges of Prio, by themselves.
func TestPutAtTheEdges(t *testing.T) {
	s := filled(t)
	checkPut(t, s, Job{}, api.ErrArg)
	checkPut(t, s, Job{Prio: -1}, api.ErrArg)
	checkPut(t, s, Job{Prio: 101}, api.ErrArg)
	checkAll(t, s, nil, 0)
	checkPut(t, s, Job{Prio: 1}, api.OK)
	checkPut(t, s, Job{Prio: 100}, api.OK)
	checkPut(t, s, Job{Prio: 101}, api.ErrArg)
	checkPut(t, s, Job{Prio: 0}, api.ErrArg)
	checkAll(t, s, []Job{{0, 1, 0}, {0, 100, 0}}, 100)
}

// P17.1: all stand as they came, whatever their numbers are, and those that are the same stand as often as they came.
func TestAllAsTheyCame(t *testing.T) {
	l := []Job{{5, 7, 30}, {0, 7, 0}, {5, 7, 30}, {9, 100, -4}, {1, 1, 90}, {5, 7, 30}, {-3, 99, top}, {top, 1, bottom}, {0, 7, 0}}
	s := filled(t)
	for k, j := range l {
		checkAll(t, s, l[:k], bestOf(l[:k]))
		checkPut(t, s, j, api.OK)
		checkAll(t, s, l[:k+1], bestOf(l[:k+1]))
	}
	checkTake(t, s, 0, 0, l[3])
	checkAll(t, s, slices.Concat(l[:3], l[4:]), 99)
	checkPut(t, s, l[3], api.OK)
	checkAll(t, s, slices.Concat(l[:3], l[4:], l[3:4]), 100)
}

// P17.1, P17.2: those that are the same in all their numbers are told apart by nothing, and none is lost.
func TestThoseThatAreTheSame(t *testing.T) {
	s, j := filled(t), Job{2, 9, 40}
	for range 300 {
		checkPut(t, s, j, api.OK)
	}
	for left := 300; left > 0; left-- {
		checkAll(t, s, slices.Repeat([]Job{j}, left), 9)
		checkTake(t, s, 8, left*7, j)
	}
	checkAll(t, s, nil, 0)
	checkNone(t, s, -1, 0)
}

// crowd is so many jobs, of which no two are the same.
func crowd(many int) []Job {
	l := make([]Job, many)
	for k := range l {
		l[k] = Job{Task: k % 8, Prio: 1 + k*37%100, Nominal: k}
	}
	return l
}

// crowded is a set of so many, put in without a look.
func crowded(t *testing.T, many int) *Set {
	t.Helper()
	s := New()
	for _, j := range crowd(many) {
		if e := s.Put(j); e != api.OK {
			t.Fatalf("Put(%v) = %d", j, e)
		}
	}
	checkAll(t, s, crowd(many), bestOf(crowd(many)))
	return s
}

// P17.1: 10000 can wait; one more can't, a Prio that is wrong is told first, and neither changes anything.
func TestPutOf10000(t *testing.T) {
	s := crowded(t, full-1)
	checkPut(t, s, Job{1, 101, 2}, api.ErrArg)
	last := Job{77, 100, -5}
	checkPut(t, s, last, api.OK)
	all := append(crowd(full-1), last)
	for range 3 {
		for prio := -3; prio <= 104; prio++ {
			want := api.ErrBig
			if prio < 1 || prio > 100 {
				want = api.ErrArg
			}
			if e := s.Put(Job{1, prio, 2}); e != want {
				t.Fatalf("Put of %d into a full set = %d; want %d", prio, e, want)
			}
		}
		checkAll(t, s, all, 100)
	}
	for _, prio := range []int{0, -1, 101, bottom, top} {
		checkPut(t, s, Job{0, prio, 0}, api.ErrArg)
	}
	checkPut(t, s, last, api.ErrBig)
}

// P17.1, P17.2: behind a Take of a full set just one can come again; a Take that takes none leaves no room.
func TestPutBehindTakeOfAFullSet(t *testing.T) {
	s, all := crowded(t, full), crowd(full)
	for k := range 5 {
		checkNone(t, s, 100, k)
		checkPut(t, s, Job{9, 1, 9}, api.ErrBig)
		// The best are those of 100, each hundredth one: k of them were taken, and the new ones are not as good.
		want := slices.IndexFunc(all, func(j Job) bool { return j.Prio == 100 })
		checkTake(t, s, 99, 0, all[want])
		all = slices.Delete(all, want, want+1)
		checkAll(t, s, all, 100)
		checkPut(t, s, Job{9, 0, 9}, api.ErrArg)
		checkPut(t, s, Job{70 + k, 99, k}, api.OK)
		all = append(all, Job{70 + k, 99, k})
		checkPut(t, s, Job{70 + k, 99, k}, api.ErrBig)
	}
	for range 3 {
		if _, ok := s.Take(0, -1); !ok {
			t.Fatal("none of a full set")
		}
	}
	for range 3 {
		checkPut(t, s, Job{1, 1, 1}, api.OK)
	}
	checkPut(t, s, Job{1, 1, 1}, api.ErrBig)
}

// P17.1: how many came in all is not what counts, but how many are there.
func TestMoreThan10000InAll(t *testing.T) {
	s := filled(t, jobs(5, 5, 5)...)
	for k := range 3 * full {
		if e := s.Put(Job{0, 6, k}); e != api.OK {
			t.Fatalf("Put %d = %d", k, e)
		}
		if j, ok := s.Take(5, k); !ok || j != (Job{0, 6, k}) {
			t.Fatalf("Take %d = %v, %v", k, j, ok)
		}
	}
	checkAll(t, s, jobs(5, 5, 5), 5)
}

// P17.2: the best of none, of one, and of several.
func TestBest(t *testing.T) {
	for prio := 1; prio <= 100; prio++ {
		s := filled(t, Job{1, prio, 2})
		checkAll(t, s, []Job{{1, prio, 2}}, prio)
		checkTake(t, s, prio-1, 0, Job{1, prio, 2})
		checkAll(t, s, nil, 0)
	}
	for _, c := range []struct {
		prios []int
		best  int
	}{
		{[]int{1, 1}, 1},
		{[]int{1, 2}, 2},
		{[]int{2, 1}, 2},
		{[]int{100, 1}, 100},
		{[]int{99, 100}, 100},
		{[]int{3, 7, 3, 7, 7, 1}, 7},
		{[]int{7, 3, 1}, 7},
		{[]int{1, 3, 7}, 7},
		{[]int{3, 7, 1}, 7},
		{[]int{50, 9, 10, 49}, 50},
		{[]int{9, 10}, 10},
		{[]int{9, 100, 10}, 100},
	} {
		checkAll(t, filled(t, jobs(c.prios...)...), jobs(c.prios...), c.best)
	}
}

// P17.2: behind a Take of the best, the next best is the best.
func TestBestBehindTake(t *testing.T) {
	s := filled(t, jobs(4, 9, 2, 9, 4, 1)...)
	l := s.All()
	for _, c := range []struct{ best, place, behind int }{{9, 1, 9}, {9, 3, 4}, {4, 0, 4}, {4, 4, 2}, {2, 2, 1}, {1, 5, 0}} {
		if n := s.Best(); n != c.best {
			t.Fatalf("Best() = %d; want %d", n, c.best)
		}
		checkTake(t, s, 0, 0, l[c.place])
		if n := s.Best(); n != c.behind {
			t.Fatalf("Best() = %d behind %v; want %d", n, l[c.place], c.behind)
		}
	}
	checkPut(t, s, Job{6, 3, 0}, api.OK)
	checkAll(t, s, []Job{{6, 3, 0}}, 3)
}

// P17.2: none of none, however far below 0 above is.
func TestTakeOfNone(t *testing.T) {
	emptied := filled(t, jobs(8, 1)...)
	checkTake(t, emptied, 0, 0, Job{0, 8, 0})
	checkTake(t, emptied, 0, 0, Job{1, 1, 10})
	for _, s := range []*Set{filled(t), emptied, New().Copy(), emptied.Copy()} {
		for _, above := range []int{0, 1, -1, -2, 100, bottom, bottom + 1, top} {
			for _, pick := range []int{0, 1, -1, bottom, top} {
				checkNone(t, s, above, pick)
			}
		}
	}
}

// P17.2: above below, equal to and above Best, for each Best, and far from it.
func TestTakeAbove(t *testing.T) {
	for best := 1; best <= 100; best++ {
		l := []Job{{0, 1, 5}, {1, best, 6}, {2, (best + 1) / 2, 7}}
		want := l[1]
		if best == 1 {
			want = l[0]
		}
		for _, above := range []int{best, best + 1, best + 2, 100, 101, 1000, 1 << 32, 1<<32 - 1, 1<<32 + best - 1, top, top - 1} {
			checkNone(t, filled(t, l...), above, 0)
			checkNone(t, filled(t, l...), above, -7)
		}
		for _, above := range []int{best - 1, 0, -1, -best, -100, -1 << 32, -1<<32 + best, bottom, bottom + 1, bottom + best} {
			checkTake(t, filled(t, l...), above, 0, want)
		}
	}
}

// P17.2: all above from -3 to 104 of one that has a Prio of 1 to 100.
func TestTakeOfEachAbove(t *testing.T) {
	for prio := 1; prio <= 100; prio++ {
		for above := -3; above <= 104; above++ {
			s := filled(t, Job{4, prio, 8})
			if above < prio {
				checkTake(t, s, above, above, Job{4, prio, 8})
			} else {
				checkNone(t, s, above, above)
			}
		}
	}
}

// P17.2: picks at all edges, of one to nine that are the best, ahead of, between and behind others.
func TestTakePick(t *testing.T) {
	for many := 1; many <= 9; many++ {
		var between, those, others []Job
		for k := range many {
			those = append(those, Job{k, 7, 100 + k})
			others = append(others, Job{20 + k, 1 + k%6, k})
			between = append(between, others[k], those[k])
		}
		for pick := -3 * many; pick <= 3*many; pick++ {
			want := those[counted(pick, many)]
			checkTake(t, filled(t, between...), 6, pick, want)
			checkTake(t, filled(t, slices.Concat(those, others)...), 6, pick, want)
			checkTake(t, filled(t, slices.Concat(others, those)...), 0, pick, want)
			checkTake(t, filled(t, those...), -1, pick, want)
		}
	}
}

// counted is counted up or down from 0, one by one, round at the ends.
func counted(pick, many int) int {
	number := 0
	for ; pick > 0; pick-- {
		number++
		if number == many {
			number = 0
		}
	}
	for ; pick < 0; pick++ {
		if number == 0 {
			number = many
		}
		number--
	}
	return number
}

// P17.2: picks at the ends of int, and far from 0: the rests are written out.
func TestTakePickFar(t *testing.T) {
	for _, c := range []struct{ many, pick, number int }{
		{1, top, 0}, {1, bottom, 0}, {1, -1, 0},
		{2, top, 1}, {2, bottom, 0}, {2, bottom + 1, 1}, {2, top - 1, 0}, {2, -1, 1}, {2, -2, 0},
		// 2^63 is 2 more than a multiple of 3, as 2^61 is.
		{3, top, 1}, {3, bottom, 1}, {3, bottom + 1, 2}, {3, bottom + 2, 0}, {3, top - 1, 0}, {3, -1, 2}, {3, -2, 1}, {3, -3, 0}, {3, -4, 2}, {3, 4, 1}, {3, 1 << 61, 2}, {3, -1 << 61, 1},
		{4, top, 3}, {4, bottom, 0}, {4, bottom + 1, 1}, {4, 1<<32 + 1, 1}, {4, -1<<32 - 1, 3},
		// 2^63 is 3 more than a multiple of 5.
		{5, top, 2}, {5, bottom, 2}, {5, bottom + 2, 4}, {5, bottom + 3, 0}, {5, 1 << 32, 1}, {5, -1 << 32, 4},
		// 2^63 is 1 more than a multiple of 7.
		{7, top, 0}, {7, top - 1, 6}, {7, bottom, 6}, {7, bottom + 1, 0}, {7, 1 << 31, 2}, {7, -1 << 31, 5}, {7, 6, 6}, {7, 7, 0}, {7, 8, 1}, {7, -7, 0}, {7, -8, 6},
		{8, bottom + 7, 7}, {8, top, 7}, {8, -9, 7},
	} {
		l := jobs(slices.Repeat([]int{30}, c.many)...)
		checkTake(t, filled(t, l...), 29, c.pick, l[c.number])
	}
}

// P17.2: who is best does not hang on Task or Nominal, only on Prio and on who came first.
func TestTakeIsByPrioAlone(t *testing.T) {
	l := []Job{{9, 5, 900}, {1, 4, 0}, {0, 5, -7}, {3, 3, bottom}, {9, 5, 0}, {-4, 5, 50}, {0, 5, -7}}
	for pick, at := range []int{0, 2, 4, 5, 6, 0, 2} {
		s := filled(t, l...)
		left := slices.Delete(slices.Clone(l), at, at+1)
		if j, ok := s.Take(4, pick); !ok || j != l[at] {
			t.Fatalf("Take(4, %d) = %v, %v; want %v", pick, j, ok, l[at])
		}
		checkAll(t, s, left, 5)
	}
}

// P17.2: one that is put in behind a Take is the last one again, also of its own priority.
func TestTakeBehindPut(t *testing.T) {
	s := filled(t, jobs(5, 5, 2)...)
	checkTake(t, s, 0, 0, Job{0, 5, 0})
	checkPut(t, s, Job{0, 5, 77}, api.OK)
	checkAll(t, s, []Job{{1, 5, 10}, {2, 2, 20}, {0, 5, 77}}, 5)
	checkTake(t, s, 4, 1, Job{0, 5, 77})
	checkPut(t, s, Job{8, 6, 1}, api.OK)
	checkTake(t, s, 5, 1, Job{8, 6, 1})
	checkNone(t, s, 5, 0)
	checkTake(t, s, 2, 1, Job{1, 5, 10})
	checkTake(t, s, 1, 1, Job{2, 2, 20})
	checkNone(t, s, 0, 0)
}

// The chapter's example.
func TestExample(t *testing.T) {
	s := filled(t, jobs(2, 5, 5)...)
	checkNone(t, s, 5, 0)
	checkTake(t, s, 4, 1, Job{2, 5, 20})
	checkAll(t, s, []Job{{0, 2, 0}, {1, 5, 10}}, 5)
}

// The document's ninth example: a pick of 4 among three equal ones takes the second one.
func TestPickOf4AmongThree(t *testing.T) {
	checkTake(t, filled(t, jobs(3, 3, 3)...), 0, 4, Job{1, 3, 10})
}

// eachRow calls see with all rows of so many numbers out of some.
func eachRow(many int, out []int, see func([]int)) {
	var longer func(l []int)
	longer = func(l []int) {
		if len(l) == many {
			see(l)
			return
		}
		for _, n := range out {
			longer(append(slices.Clone(l), n))
		}
	}
	longer(nil)
}

// P17.1, P17.2: all rows of up to five of three priorities, with all small above and picks, until all are taken.
func TestAllSmallSets(t *testing.T) {
	for many := range 6 {
		eachRow(many, []int{1, 2, 3}, func(prios []int) {
			for above := -1; above <= 4; above++ {
				for pick := -4; pick <= 5; pick++ {
					s, w := filled(t), &words{}
					for _, j := range jobs(prios...) {
						followPut(t, s, w, j)
					}
					for range many + 1 {
						followTake(t, s, w, above, pick)
					}
				}
			}
		})
	}
}

// P17.1, P17.2: all rows of six deeds: one of two priorities comes, or one of two picks goes.
func TestAllSmallHistories(t *testing.T) {
	eachRow(6, []int{0, 1, 2, 3, 4}, func(deeds []int) {
		s, w := filled(t), &words{}
		for k, deed := range deeds {
			if deed < 2 {
				followPut(t, s, w, Job{k, 1 + deed, 10 * k})
			} else {
				followTake(t, s, w, deed/4, deed-2)
			}
		}
	})
}

// someJob is a job of a priority up to most, or, now and then, of one that can't be.
func someJob(r *rand.Rand, most int) Job {
	j := Job{Task: r.Intn(8), Prio: 1 + r.Intn(most), Nominal: r.Intn(1000)}
	switch r.Intn(30) {
	case 0:
		j.Prio = r.Intn(5) - 4
	case 1:
		j.Prio = 101 + r.Intn(5)
	case 2:
		j.Task, j.Nominal = bottom+r.Intn(2), top-r.Intn(2)
	}
	return j
}

func somePick(r *rand.Rand) int {
	switch r.Intn(12) {
	case 0:
		return top - r.Intn(9)
	case 1:
		return bottom + r.Intn(9)
	}
	return r.Intn(60) - 30
}

// someDeed lets one come, or go, of a set and of the words.
func someDeed(t *testing.T, r *rand.Rand, s *Set, w *words, most, comes int) {
	t.Helper()
	if r.Intn(10) < comes {
		followPut(t, s, w, someJob(r, most))
	} else {
		followTake(t, s, w, r.Intn(most+2)/(1+r.Intn(4))-1, somePick(r))
	}
}

// P17.1, P17.2: many deeds, against the words.
func TestMany(t *testing.T) {
	r := rand.New(rand.NewSource(171))
	for range 500 {
		s, w := filled(t), &words{}
		most := 1 + r.Intn(1+r.Intn(100))
		for range 4 {
			comes := 2 + r.Intn(7)
			for range 40 {
				someDeed(t, r, s, w, most, comes)
			}
		}
	}
}

// copied is a copy, of which all that can be asked is the same.
func copied(t *testing.T, s *Set) *Set {
	t.Helper()
	c := s.Copy()
	if c == nil || c == s {
		t.Fatalf("Copy() = %p of %p", c, s)
	}
	checkAll(t, c, s.All(), s.Best())
	return c
}

// P17.3: a Copy of a new one: what comes into one does not come into the other.
func TestCopyOfNew(t *testing.T) {
	s := filled(t)
	c := copied(t, s)
	checkPut(t, c, Job{1, 2, 3}, api.OK)
	checkAll(t, s, nil, 0)
	checkPut(t, s, Job{4, 5, 6}, api.OK)
	checkPut(t, s, Job{7, 1, 9}, api.OK)
	checkAll(t, c, []Job{{1, 2, 3}}, 2)
	checkTake(t, c, 0, 0, Job{1, 2, 3})
	checkAll(t, s, []Job{{4, 5, 6}, {7, 1, 9}}, 5)
	checkTake(t, s, 0, 0, Job{4, 5, 6})
	checkAll(t, c, nil, 0)
}

// P17.3: of one that was filled and taken from, and of a copy of it: both go on with the same.
func TestCopiesGoOnWithTheSame(t *testing.T) {
	s := filled(t, jobs(3, 7, 3, 7, 7, 1)...)
	checkTake(t, s, 0, 1, Job{3, 7, 30})
	c := copied(t, s)
	d := copied(t, c)
	for _, x := range []*Set{d, s, c} {
		checkAll(t, x, []Job{{0, 3, 0}, {1, 7, 10}, {2, 3, 20}, {4, 7, 40}, {5, 1, 50}}, 7)
		checkPut(t, x, Job{6, 7, 60}, api.OK)
		checkPut(t, x, Job{7, 101, 60}, api.ErrArg)
		checkTake(t, x, 6, -1, Job{6, 7, 60})
		checkTake(t, x, 6, 3, Job{4, 7, 40})
		checkTake(t, x, 6, 9, Job{1, 7, 10})
		checkNone(t, x, 3, 9)
		checkPut(t, x, Job{8, 3, 80}, api.OK)
		checkTake(t, x, 2, 2, Job{8, 3, 80})
		checkAll(t, x, []Job{{0, 3, 0}, {2, 3, 20}, {5, 1, 50}}, 3)
	}
}

// P17.3: what comes into one behind the Copy never lies over what comes into another one, of sets of each size.
func TestCopiesGoOnWithOthers(t *testing.T) {
	for many := range 70 {
		s := filled(t, crowd(many)...)
		c := copied(t, s)
		d := copied(t, c)
		all := [][]Job{crowd(many), crowd(many), crowd(many)}
		for k := range 6 {
			for at, x := range []*Set{c, s, d} {
				j := Job{at, 1 + at, k}
				checkPut(t, x, j, api.OK)
				all[at] = append(all[at], j)
			}
		}
		for at, x := range []*Set{c, s, d} {
			checkAll(t, x, all[at], bestOf(all[at]))
		}
	}
}

// P17.3: a Take of one leaves the other one as it is, from each place of sets of each size, and so does what is put in behind it.
func TestTakeOfOneLeavesTheCopy(t *testing.T) {
	for many := 1; many <= 20; many++ {
		for at := range many {
			all := jobs(slices.Repeat([]int{6}, many)...)
			left := slices.Delete(slices.Clone(all), at, at+1)
			for turn := range 2 {
				s := filled(t, all...)
				c := copied(t, s)
				if turn == 1 {
					s, c = c, s
				}
				checkTake(t, s, 0, at, all[at])
				checkAll(t, c, all, 6)
				checkPut(t, s, Job{50, 2, 51}, api.OK)
				checkAll(t, c, all, 6)
				checkPut(t, c, Job{60, 8, 61}, api.OK)
				checkAll(t, s, append(slices.Clone(left), Job{50, 2, 51}), bestOf(append(slices.Clone(left), Job{50, 2, 51})))
				checkTake(t, c, 0, 0, Job{60, 8, 61})
				checkTake(t, c, 0, -1, all[many-1])
				checkPut(t, c, Job{70, 3, 71}, api.OK)
				checkAll(t, s, append(slices.Clone(left), Job{50, 2, 51}), bestOf(append(slices.Clone(left), Job{50, 2, 51})))
				checkAll(t, c, append(slices.Clone(all[:many-1]), Job{70, 3, 71}), bestOf(append(slices.Clone(all[:many-1]), Job{70, 3, 71})))
			}
		}
	}
}

// P17.3: a Copy of a full one is full, and each gets room by its own Take alone.
func TestCopyOfAFullSet(t *testing.T) {
	s := crowded(t, full)
	c := copied(t, s)
	checkPut(t, c, Job{1, 1, 1}, api.ErrBig)
	if _, ok := c.Take(0, 0); !ok {
		t.Fatal("none of a full set")
	}
	checkAll(t, s, crowd(full), 100)
	checkPut(t, s, Job{1, 1, 1}, api.ErrBig)
	checkPut(t, c, Job{1, 1, 1}, api.OK)
	checkPut(t, c, Job{1, 1, 1}, api.ErrBig)
	checkAll(t, s, crowd(full), 100)
}

// P17.3: copies at each step, and copies of copies, go on with the same and with others, each as the words do.
func TestManyCopies(t *testing.T) {
	r := rand.New(rand.NewSource(173))
	for range 150 {
		most, comes := 1+r.Intn(1+r.Intn(100)), 4+r.Intn(4)
		sets, all := []*Set{filled(t)}, []*words{{}}
		for range 150 {
			k := r.Intn(len(sets))
			switch {
			case r.Intn(6) == 0 && len(sets) < 10:
				sets, all = append(sets, copied(t, sets[k])), append(all, all[k].copy())
			case r.Intn(8) == 0:
				j, pick := someJob(r, most), somePick(r)
				for k := range sets {
					followPut(t, sets[k], all[k], j)
					followTake(t, sets[k], all[k], 0, pick)
				}
			default:
				someDeed(t, r, sets[k], all[k], most, comes)
			}
			for k := range sets {
				same(t, sets[k], all[k])
			}
		}
	}
}

// P17.3: Copy changes nothing of the one that is copied, nor does a copy that is never used.
func TestCopyChangesNothing(t *testing.T) {
	s, w := filled(t), &words{}
	for k := range 60 {
		for range 3 {
			s.Copy()
			same(t, s, w)
		}
		followPut(t, s, w, Job{k, 1 + k*13%20, k})
		if k%3 == 2 {
			followTake(t, s, w, 0, k)
		}
	}
}

// strangers is what New did not give: nil, sets that were made elsewhere, and the fields of sets, new and not, at another place.
func strangers(t *testing.T) []*Set {
	used, idle := filled(t, jobs(3, 7, 7)...), filled(t)
	a, b, c := *used, *idle, *used.Copy()
	return []*Set{nil, {}, new(Set), {jobs: jobs(1, 2)}, &a, &b, &c}
}

// The line ahead of P17.1: of nil there is ErrNil, 0, no, nothing, nil, again and again; so there is of a set that New did not give.
func TestOfNoSet(t *testing.T) {
	for k, s := range strangers(t) {
		for _, prio := range []int{1, 100, 50, 0, -1, 101, bottom, top} {
			if e := s.Put(Job{1, prio, 2}); e != api.ErrNil {
				t.Errorf("%d: Put of %d = %d", k, prio, e)
			}
			if n := s.Best(); n != 0 {
				t.Errorf("%d: Best() = %d", k, n)
			}
			for _, above := range []int{0, -1, 100, bottom, top} {
				if j, ok := s.Take(above, prio); ok || j != (Job{}) {
					t.Errorf("%d: Take(%d, %d) = %v, %v", k, above, prio, j, ok)
				}
			}
			if l := s.All(); len(l) != 0 {
				t.Errorf("%d: All() = %v", k, l)
			}
			if c := s.Copy(); c != nil {
				t.Errorf("%d: Copy() = %v", k, c)
			}
		}
	}
}

// The line ahead of P17.1: a set is not touched by what is asked of its fields at another place.
func TestFieldsElsewhereTouchNothing(t *testing.T) {
	s := filled(t, jobs(3, 7, 7)...)
	elsewhere := *s
	for k := range 5 {
		elsewhere.Put(Job{9, 9, k})
		elsewhere.Take(0, 0)
	}
	checkAll(t, s, jobs(3, 7, 7), 7)
	checkPut(t, s, Job{3, 1, 30}, api.OK)
	checkAll(t, s, jobs(3, 7, 7, 1), 7)
}

// The line ahead of P17.1: what Copy gives is one that New gave, too.
func TestCopiesAreSets(t *testing.T) {
	s := filled(t)
	for k := range 9 {
		s = copied(t, s)
		checkPut(t, s, Job{k, 4, k}, api.OK)
	}
	for k := range 9 {
		s = copied(t, s)
		checkTake(t, s, 3, 0, Job{k, 4, k})
	}
	checkAll(t, copied(t, s), nil, 0)
}

// checkLaw puts all in, and asks that all are taken, each once, those of greater Prio first, and none behind that.
func checkLaw(t *testing.T, l []Job, pick func() int) {
	t.Helper()
	s, came := New(), map[Job]int{}
	for _, j := range l {
		if e := s.Put(j); e != api.OK {
			t.Fatalf("Put(%v) = %d", j, e)
		}
		came[j]++
	}
	last := 100
	for k := range l {
		j, ok := s.Take(0, pick())
		if !ok || j.Prio > last || came[j] == 0 {
			t.Fatalf("Take %d = %v, %v behind one of %d; it came %d times more", k, j, ok, last, came[j])
		}
		last = j.Prio
		came[j]--
	}
	for j, n := range came {
		if n != 0 {
			t.Errorf("%v was taken too seldom, by %d", j, n)
		}
	}
	checkNone(t, s, bottom, pick())
}

// P17.4: all are taken, each once, those of greater Prio first.
func TestAllAreTaken(t *testing.T) {
	r := rand.New(rand.NewSource(174))
	for range 1000 {
		most := 1 + r.Intn(1+r.Intn(100))
		l := make([]Job, r.Intn(150))
		for k := range l {
			l[k] = Job{Task: r.Intn(3), Prio: 1 + r.Intn(most), Nominal: r.Intn(1 + r.Intn(50))}
		}
		checkLaw(t, l, func() int { return somePick(r) })
	}
	checkLaw(t, nil, func() int { return 0 })
	checkLaw(t, crowd(100), func() int { return 0 })
	checkLaw(t, slices.Repeat(jobs(1, 100), 50), func() int { return -1 })
}

// P17.4, P17.2: picks of 0 take those of one priority as they came, picks of -1 the other way round, of a full set.
func TestAllOfAFullSetAreTaken(t *testing.T) {
	inOrder := crowd(full)
	slices.SortStableFunc(inOrder, func(a, b Job) int { return b.Prio - a.Prio })
	s := crowded(t, full)
	for k, want := range inOrder {
		if j, ok := s.Take(want.Prio-1, 0); !ok || j != want {
			t.Fatalf("Take %d = %v, %v; want %v", k, j, ok, want)
		}
	}
	checkAll(t, s, nil, 0)
	last := crowd(full)
	slices.Reverse(last)
	slices.SortStableFunc(last, func(a, b Job) int { return b.Prio - a.Prio })
	s = crowded(t, full)
	for k, want := range last {
		if j, ok := s.Take(want.Prio-1, -1); !ok || j != want {
			t.Fatalf("Take %d = %v, %v; want %v", k, j, ok, want)
		}
	}
	checkAll(t, s, nil, 0)
}

// spoil writes over an answer, and the room behind it.
func spoil(l []Job) {
	for k := range l[:cap(l)] {
		l[:cap(l)][k] = Job{-9, 99, -99}
	}
}

// R4: what All tells is not the set's, nor a copy's: what is written over it changes neither.
func TestAllIsNotTheSets(t *testing.T) {
	r := rand.New(rand.NewSource(175))
	for range 150 {
		most, comes := 1+r.Intn(1+r.Intn(100)), 5+r.Intn(3)
		s, w := filled(t), &words{}
		d, v := copied(t, s), w.copy()
		for range 80 {
			spoil(s.All())
			spoil(d.All())
			same(t, s, w)
			same(t, d, v)
			kept := s.All()
			someDeed(t, r, s, w, most, comes)
			someDeed(t, r, d, v, most, comes)
			spoil(kept)
			same(t, s, w)
			same(t, d, v)
			if r.Intn(5) == 0 {
				d, v = copied(t, s), w.copy()
			}
		}
	}
}

// R4: no two answers share memory, spare room too: what was told stays as it was told, whatever is written elsewhere.
func TestNoTwoAnswersShareMemory(t *testing.T) {
	s := filled(t)
	var answers, wants [][]Job
	keep := func(l []Job) {
		answers, wants = append(answers, l), append(wants, slices.Clone(l))
	}
	for k := range 60 {
		c := s.Copy()
		keep(s.All())
		keep(c.All())
		keep(s.All())
		s.Put(Job{k, 1 + k*7%10, k})
		c.Put(Job{k, 1 + k*3%10, k})
		keep(s.All())
		keep(c.All())
		if k%4 == 3 {
			s.Take(0, k)
			c.Take(0, k)
			keep(c.All())
			keep(s.All())
		}
	}
	now, best := s.All(), s.Best()
	for k, l := range answers {
		if !slices.Equal(l, wants[k]) {
			t.Fatalf("answer %d became %v; want %v", k, l, wants[k])
		}
		spoil(l)
	}
	checkAll(t, s, now, best)
}

// R4: a row of which jobs were put in can be written over.
func TestJobsAreValues(t *testing.T) {
	l := jobs(4, 8, 8, 1)
	s := New()
	for k := range l {
		s.Put(l[k])
	}
	spoil(l)
	checkAll(t, s, jobs(4, 8, 8, 1), 8)
}

// R5: two sets with the same history answer the same, whatever other sets, and copies, do between.
func TestOneAnswer(t *testing.T) {
	r := rand.New(rand.NewSource(176))
	for range 100 {
		most := 1 + r.Intn(20)
		x, y, other := filled(t), filled(t), filled(t)
		for range 100 {
			other.Put(someJob(r, most))
			x.Copy().Put(someJob(r, most))
			y.Copy().Take(0, somePick(r))
			j, above, pick := someJob(r, most), r.Intn(most+1)-1, somePick(r)
			if a, b := x.Put(j), y.Put(j); a != b {
				t.Fatalf("Put(%v): %d and %d", j, a, b)
			}
			a, is := x.Take(above, pick)
			if b, ok := y.Take(above, pick); a != b || is != ok {
				t.Fatalf("Take(%d, %d): %v and %v", above, pick, a, b)
			}
			checkAll(t, y, x.All(), x.Best())
		}
	}
}
