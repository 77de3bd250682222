package admit

import (
	"math/rand"
	"slices"
	"strconv"
	"strings"
	"testing"

	"camshaft/api"
	"camshaft/check"
	"camshaft/code"
	"camshaft/crc"
	"camshaft/image"
	"camshaft/op"
	"camshaft/rta"
	"camshaft/text"
)

const (
	top    = 1<<63 - 1
	bottom = -1 << 63
	limit  = 1 << 20
)

// plan is a task of which all is known: its code is its locks, each in the one ahead, with pauses of so many steps between: ahead of each lock, in the innermost one, behind each lock.
type plan struct {
	prio, period, deadline, jitter int
	blocks, pauses                 []int
}

// setting is an image of plans, with so many blocks.
type setting struct {
	change, latch, commit, blocks int
	plans                         []plan
}

// row is the instructions whose lines, with a comma between, s is.
func row(s string) []api.Instr {
	l, e := text.Parse(strings.ReplaceAll(s, ", ", "\n") + "\n")
	if e != api.OK {
		panic(s)
	}
	return l
}

// line is an instruction's text, and a comma behind.
func line(name string, n int) string { return name + " " + strconv.Itoa(n) + ", " }

// pause is a text of just so many steps, up to 1001, with a comma behind.
func pause(steps int) string {
	switch steps {
	case 0:
		return ""
	case 1:
		return "JUMP 0, "
	}
	return line("LOOP", steps-1) + "NEXT, "
}

// pauseAt is 0 where a plan has none written out.
func (p plan) pauseAt(k int) int {
	if k < len(p.pauses) {
		return p.pauses[k]
	}
	return 0
}

func (p plan) code() string {
	s, k := "", 0
	for _, b := range p.blocks {
		s += pause(p.pauseAt(k)) + line("LOCK", b)
		k++
	}
	s += pause(p.pauseAt(k))
	for _, b := range slices.Backward(p.blocks) {
		k++
		s += line("UNLOCK", b) + pause(p.pauseAt(k))
	}
	return s + "END"
}

// steps is all pauses, a step for each Lock and Unlock, and one for the End.
func (p plan) steps() int {
	n := 2*len(p.blocks) + 1
	for k := range n {
		n += p.pauseAt(k)
	}
	return n
}

// lens is of each block the steps behind its Lock, its Unlock among them.
func (p plan) lens() []int {
	var l []int
	many := len(p.blocks)
	for k := range many {
		n := 2*(many-k-1) + 1
		for at := k + 1; at <= 2*many-k-1; at++ {
			n += p.pauseAt(at)
		}
		l = append(l, n)
	}
	return l
}

func (p plan) task() image.Task {
	return image.Task{Prio: p.prio, Period: p.period, Deadline: p.deadline, Jitter: p.jitter, Blocks: slices.Clone(p.blocks), Code: row(p.code())}
}

func (s setting) image() image.Image {
	im := image.Image{Switch: s.change, Latch: s.latch, Commit: s.commit, Inputs: 2, Safe: []int{0, 0, 0}}
	for b := range s.blocks {
		im.Blocks = append(im.Blocks, make([]int, 1+b))
	}
	for _, p := range s.plans {
		im.Tasks = append(im.Tasks, p.task())
	}
	return im
}

// want is what is told of a setting, by its own numbers alone.
func (s setting) want() Verdict {
	var slots []int
	var lens [][]int
	for _, p := range s.plans {
		slots = append(slots, s.change+s.latch+p.steps()+s.commit+s.change)
		lens = append(lens, p.lens())
	}
	return wantOf(s.image(), slots, lens)
}

// wantJudge is P15.1's words again, of any image.
func wantJudge(im image.Image) Verdict {
	if at, e := check.All(im); e != api.OK {
		return Verdict{E: e, At: at}
	}
	var slots []int
	var lens [][]int
	for i := range im.Tasks {
		n, _ := check.Slots(im, i)
		l, _ := check.Locked(im, i)
		slots, lens = append(slots, n), append(lens, l)
	}
	return wantOf(im, slots, lens)
}

// wantOf is P15.1's words again, of an image whose tasks can be run, with these slots and lengths of locks.
func wantOf(im image.Image, slots []int, lens [][]int) Verdict {
	v := Verdict{At: -1, Ceilings: make([]int, len(im.Blocks))}
	for _, t := range im.Tasks {
		for _, b := range t.Blocks {
			v.Ceilings[b] = max(v.Ceilings[b], t.Prio)
		}
	}
	for i, t := range im.Tasks {
		wait := 0
		for j, lower := range im.Tasks {
			for k, b := range lower.Blocks {
				if lower.Prio < t.Prio && v.Ceilings[b] >= t.Prio {
					wait = max(wait, lens[j][k])
				}
			}
		}
		v.Rows = append(v.Rows, rta.Row{C: slots[i], B: wait, T: t.Period, D: t.Deadline, J: t.Jitter, P: t.Prio})
	}
	for i := range im.Tasks {
		n, e := wantResponse(v.Rows, i)
		if e != api.OK {
			v.E, v.At, v.Responses = e, i, nil
			return v
		}
		v.Responses = append(v.Responses, n)
	}
	return v
}

// sum is what rta's chapter says of a row's slots within w; none of an image's rows makes it too great.
func sum(rows []rta.Row, i, w int) int {
	n := rows[i].C + rows[i].B
	for j, r := range rows {
		if j == i || r.P < rows[i].P {
			continue
		}
		n += (w + r.J + r.T - 1) / r.T * r.C
		if r.P == rows[i].P {
			n += r.C
		}
	}
	return n
}

func wantResponse(rows []rta.Row, i int) (int, api.Errno) {
	for w := 0; ; {
		n := sum(rows, i, w)
		switch {
		case rows[i].J+n > rows[i].D:
			return 0, api.ErrTime
		case n == w:
			return rows[i].J + w, api.OK
		}
		w = n
	}
}

func same(a, b Verdict) bool {
	return a.E == b.E && a.At == b.At && slices.Equal(a.Rows, b.Rows) && slices.Equal(a.Responses, b.Responses) && slices.Equal(a.Ceilings, b.Ceilings)
}

// told is an image in few letters, and of lists that are far too long just their beginning.
func told(im image.Image) string {
	s := strconv.Itoa(im.Switch) + " " + strconv.Itoa(im.Latch) + " " + strconv.Itoa(im.Commit) + " " + strconv.Itoa(len(im.Blocks)) + "\n"
	for _, t := range im.Tasks[:min(9, len(im.Tasks))] {
		for _, n := range append([]int{t.Prio, t.Period, t.Deadline, t.Jitter}, t.Blocks[:min(9, len(t.Blocks))]...) {
			s += strconv.Itoa(n) + " "
		}
		s += strings.ReplaceAll(text.Show(t.Code[:min(200, len(t.Code))]), "\n", ", ") + "\n"
	}
	return s
}

// checkImage asks Judge of an image, and Load of its bytes.
func checkImage(t *testing.T, im image.Image, want Verdict) {
	t.Helper()
	if words := wantJudge(im); !same(words, want) {
		t.Fatalf("the test's own words answer %v, not %v: %s", words, want, told(im))
	}
	if v := Judge(im); !same(v, want) {
		t.Fatalf("Judge answers %v, not %v: %s", v, want, told(im))
	}
	if !image.Right(im) {
		return
	}
	back, v := Load(image.Encode(im))
	if !image.Same(back, im) || !same(v, want) {
		t.Fatalf("Load answers %v, not %v: %s", v, want, told(im))
	}
}

// checkSetting asks of a setting, and answers what was wanted.
func checkSetting(t *testing.T, s setting) Verdict {
	t.Helper()
	want := s.want()
	checkImage(t, s.image(), want)
	return want
}

// checkEnd asks of a setting for an error and its place.
func checkEnd(t *testing.T, s setting, at int, e api.Errno) {
	t.Helper()
	if want := checkSetting(t, s); want.At != at || want.E != e {
		t.Fatalf("the test's own words answer %d, %d, not %d, %d: %s", want.At, want.E, at, e, told(s.image()))
	}
}

// P15.1: the chapter's example.
func TestExample(t *testing.T) {
	s := setting{latch: 1, commit: 1, plans: []plan{{prio: 1, period: 9, deadline: 5, pauses: []int{2}}}}
	checkEnd(t, s, -1, api.OK)
	s.plans[0].deadline = 4
	checkEnd(t, s, 0, api.ErrTime)
	s.plans = []plan{{prio: 2, period: 100, deadline: 100}, s.plans[0]}
	checkEnd(t, s, 1, api.ErrTime)
}

// P15.1: one task alone, all numbers written out.
func TestOneTask(t *testing.T) {
	s := setting{change: 5, latch: 17, commit: 31, blocks: 3, plans: []plan{{prio: 42, period: 500, deadline: 300, jitter: 7, blocks: []int{1}, pauses: []int{2, 4, 8}}}}
	checkImage(t, s.image(), Verdict{At: -1, Rows: []rta.Row{{C: 5 + 17 + 17 + 31 + 5, T: 500, D: 300, J: 7, P: 42}}, Responses: []int{82}, Ceilings: []int{0, 42, 0}})
	s = setting{latch: 1, commit: 1, plans: []plan{{prio: 1, period: 3, deadline: 3}}}
	checkImage(t, s.image(), Verdict{At: -1, Rows: []rta.Row{{C: 3, T: 3, D: 3, P: 1}}, Responses: []int{3}})
	s = setting{change: 100, latch: 100, commit: 100, plans: []plan{{prio: 100, period: limit, deadline: limit}}}
	checkImage(t, s.image(), Verdict{At: -1, Rows: []rta.Row{{C: 401, T: limit, D: limit, P: 100}}, Responses: []int{401}})
}

// three is three tasks, the least one of which holds blocks of both others.
func three() setting {
	return setting{change: 1, latch: 2, commit: 3, blocks: 3, plans: []plan{
		{prio: 1, period: 400, deadline: 300, jitter: 5, blocks: []int{0, 2}, pauses: []int{1, 5, 7, 3, 2}},
		{prio: 9, period: 100, deadline: 60, jitter: 3, blocks: []int{2}, pauses: []int{0, 2}},
		{prio: 4, period: 200, deadline: 150, jitter: 11, blocks: []int{0}, pauses: []int{6, 9}},
	}}
}

// P15.1: several tasks of different priorities, all numbers written out.
func TestSeveralTasks(t *testing.T) {
	want := Verdict{
		At: -1,
		Rows: []rta.Row{
			{C: 30, T: 400, D: 300, J: 5, P: 1},
			{C: 12, B: 8, T: 100, D: 60, J: 3, P: 9},
			{C: 25, B: 18, T: 200, D: 150, J: 11, P: 4},
		},
		Responses: []int{5 + 30 + 12 + 25, 3 + 12 + 8, 11 + 25 + 18 + 12},
		Ceilings:  []int{4, 0, 9},
	}
	checkImage(t, three().image(), want)
	s := three()
	s.plans[1].jitter = 50
	want = s.want()
	if want.E != api.ErrTime || want.At != 1 || len(want.Rows) != 3 || len(want.Responses) != 0 || !slices.Equal(want.Ceilings, []int{4, 0, 9}) {
		t.Fatal(want)
	}
	checkImage(t, s.image(), want)
}

// eight is as many tasks as there can be, of different priorities and of the same ones, with blocks of none, one, two and more of them.
func eight() setting {
	return setting{change: 1, latch: 2, commit: 4, blocks: 6, plans: []plan{
		{prio: 20, period: 3000, deadline: 2900, jitter: 13, blocks: []int{1, 2}, pauses: []int{1, 2, 3, 4, 5}},
		{prio: 90, period: 1000, deadline: 400, jitter: 0, blocks: []int{2}, pauses: []int{3, 1}},
		{prio: 20, period: 3100, deadline: 3000, jitter: 17, pauses: []int{14}},
		{prio: 5, period: 6000, deadline: 5900, jitter: 19, blocks: []int{1, 4}, pauses: []int{0, 20, 10, 0, 1}},
		{prio: 50, period: 2000, deadline: 1200, jitter: 23, blocks: []int{1}},
		{prio: 50, period: 2100, deadline: 1300, jitter: 29, blocks: []int{2}, pauses: []int{0, 11, 7}},
		{prio: 1, period: 9000, deadline: 8000, jitter: 0, blocks: []int{0, 2, 4}, pauses: []int{0, 0, 6, 2, 0, 9}},
		{prio: 5, period: 6100, deadline: 6000, jitter: 31, blocks: []int{4}, pauses: []int{0, 40}},
	}}
}

// P15.1: eight tasks, all numbers written out.
func TestEightTasks(t *testing.T) {
	checkImage(t, eight().image(), Verdict{
		At: -1,
		Rows: []rta.Row{
			{C: 8 + 20, B: 33, T: 3000, D: 2900, J: 13, P: 20},
			{C: 8 + 7, B: 12, T: 1000, D: 400, J: 0, P: 90},
			{C: 8 + 15, B: 33, T: 3100, D: 3000, J: 17, P: 20},
			{C: 8 + 36, B: 11, T: 6000, D: 5900, J: 19, P: 5},
			{C: 8 + 3, B: 33, T: 2000, D: 1200, J: 23, P: 50},
			{C: 8 + 21, B: 33, T: 2100, D: 1300, J: 29, P: 50},
			{C: 8 + 24, B: 0, T: 9000, D: 8000, J: 0, P: 1},
			{C: 8 + 43, B: 11, T: 6100, D: 6000, J: 31, P: 5},
		},
		Responses: []int{
			13 + (28 + 33) + (15 + 11 + 29) + 2*23,
			0 + (15 + 12),
			17 + (23 + 33) + (15 + 11 + 29) + 2*28,
			19 + (44 + 11) + (28 + 15 + 23 + 11 + 29) + 2*51,
			23 + (11 + 33) + 15 + 2*29,
			29 + (29 + 33) + 15 + 2*11,
			0 + 32 + (28 + 15 + 23 + 44 + 11 + 29 + 51),
			31 + (51 + 11) + (28 + 15 + 23 + 11 + 29) + 2*44,
		},
		Ceilings: []int{1, 50, 90, 0, 5, 0},
	})
}

// P15.1: one number of one task is changed at a time; all the others stay, and what hangs on it goes along.
func TestEachNumber(t *testing.T) {
	before := eight().want()
	for _, i := range []int{0, 3, 7} {
		for name, change := range map[string]func(p *plan){
			"period":   func(p *plan) { p.period += 77 },
			"deadline": func(p *plan) { p.deadline -= 77 },
			"jitter":   func(p *plan) { p.jitter += 77 },
			"priority": func(p *plan) { p.prio += 2 },
			"steps":    func(p *plan) { p.pauses = append(slices.Clone(p.pauses), 0, 0, 0, 0, 0)[:5]; p.pauses[0] += 77 },
			"lens":     func(p *plan) { p.pauses = append(slices.Clone(p.pauses), 0, 0, 0, 0, 0)[:5]; p.pauses[1] += 77 },
			"blocks":   func(p *plan) { p.blocks = []int{5} },
			"no block": func(p *plan) { p.blocks = nil },
		} {
			s := eight()
			change(&s.plans[i])
			if after := checkSetting(t, s); same(before, after) {
				t.Errorf("%s of task %d makes no difference", name, i)
			}
		}
	}
	for _, change := range []func(s *setting){
		func(s *setting) { s.change += 3 }, func(s *setting) { s.latch += 3 }, func(s *setting) { s.commit += 3 }, func(s *setting) { s.blocks++ },
	} {
		s := eight()
		change(&s)
		if after := checkSetting(t, s); same(before, after) {
			t.Errorf("it makes no difference: %v", s)
		}
	}
}

// P15.1: Switch counts twice in each row, Latch and Commit once.
func TestSlotsOfEachRow(t *testing.T) {
	for _, change := range []int{0, 1, 50, 100} {
		for _, latch := range []int{1, 2, 100} {
			for _, commit := range []int{1, 3, 100} {
				s := eight()
				s.change, s.latch, s.commit = change, latch, commit
				for i := range s.plans {
					s.plans[i].period, s.plans[i].deadline = limit, limit
				}
				checkEnd(t, s, -1, api.OK)
				for i, r := range Judge(s.image()).Rows {
					if r.C != 2*change+latch+commit+s.plans[i].steps() {
						t.Errorf("row %d has %d slots: %v", i, r.C, s)
					}
				}
			}
		}
	}
}

// P15.1: tasks of the same priority: each counts once more of each other one.
func TestSamePriority(t *testing.T) {
	s := setting{latch: 1, commit: 1, plans: []plan{
		{prio: 5, period: 100, deadline: 100, pauses: []int{1}}, {prio: 5, period: 100, deadline: 100, pauses: []int{5}},
	}}
	checkImage(t, s.image(), Verdict{At: -1, Rows: []rta.Row{{C: 4, T: 100, D: 100, P: 5}, {C: 8, T: 100, D: 100, P: 5}}, Responses: []int{20, 16}})
	s.plans = slices.Repeat(s.plans[:1], 8)
	want := checkSetting(t, s)
	if want.E != api.OK || !slices.Equal(want.Responses, slices.Repeat([]int{4 + 7*8}, 8)) {
		t.Error(want)
	}
}

// subsets is the rising rows of some of these places.
func subsets(n int) [][]int {
	var all [][]int
	for mask := range 1 << n {
		var l []int
		for p := range n {
			if mask>>p&1 == 1 {
				l = append(l, p)
			}
		}
		all = append(all, l)
	}
	return all
}

// P15.1: three tasks with all choices of two blocks and of three priorities: ceilings and waits.
func TestAllChoicesOfBlocks(t *testing.T) {
	seen := map[int]bool{}
	choices := subsets(2)
	for k := range 3 * 3 * 3 * 4 * 4 * 4 {
		s := setting{latch: 1, commit: 1, blocks: 2}
		for i := range 3 {
			s.plans = append(s.plans, plan{prio: 10 * (1 + k%3), period: 900, deadline: 900, blocks: choices[k/3%4], pauses: []int{0, 2 + 3*i, 5 + i, 9 * i}})
			k /= 12
		}
		for _, r := range checkSetting(t, s).Rows {
			seen[r.B] = true
		}
	}
	if len(seen) < 9 {
		t.Errorf("too few waits: %v", seen)
	}
}

// P15.1: up to eight blocks, of which a task has one, all, or none; a block that no task has has the ceiling 0.
func TestBlocksThatNoTaskHas(t *testing.T) {
	for blocks := range 9 {
		for _, has := range append(subsets(min(blocks, 3)), slices.Clone([]int{0, 1, 2, 3, 4, 5, 6, 7}[:blocks])) {
			s := setting{latch: 1, commit: 1, blocks: blocks, plans: []plan{{prio: 3, period: 99, deadline: 99, blocks: has}, {prio: 77, period: 99, deadline: 99}}}
			want := make([]int, blocks)
			for _, b := range has {
				want[b] = 3
			}
			if v := checkSetting(t, s); !slices.Equal(v.Ceilings, want) {
				t.Errorf("%v: %v", want, v)
			}
		}
		for b := range blocks {
			s := setting{latch: 1, commit: 1, blocks: blocks, plans: []plan{{prio: 3, period: 99, deadline: 99}, {prio: 77, period: 99, deadline: 99, blocks: []int{b}}}}
			want := make([]int, blocks)
			want[b] = 77
			if v := checkSetting(t, s); !slices.Equal(v.Ceilings, want) {
				t.Errorf("%v: %v", want, v)
			}
		}
	}
}

// P15.1: a lock's length counts from behind its Lock, and the longest one of those that lift counts.
func TestWaits(t *testing.T) {
	s := setting{latch: 1, commit: 1, blocks: 3, plans: []plan{
		{prio: 2, period: 900, deadline: 900, blocks: []int{0, 1, 2}, pauses: []int{50, 20, 10, 5, 4, 3, 60}},
		{prio: 9, period: 900, deadline: 900},
	}}
	// Nobody else has a block; then the innermost one; then the one around it; then the outermost one.
	for k, want := range []int{0, 6, 22, 47} {
		s.plans[1].blocks = []int{3 - k}[:min(k, 1)]
		v := checkSetting(t, s)
		if v.E != api.OK || v.Rows[1].B != want || v.Rows[0].B != 0 {
			t.Errorf("wait of %v, not %d", v.Rows, want)
		}
	}
	s.plans[0].prio = 9
	if v := checkSetting(t, s); v.Rows[0].B != 0 || v.Rows[1].B != 0 {
		t.Errorf("tasks of the same priority wait: %v", v)
	}
}

// fault is a task that can't be run, and why.
type fault struct {
	blocks, outs []int
	s            string
	e            api.Errno
}

// faults is each kind of error that check has of a task of an image that is right.
func faults() []fault {
	return []fault{
		{nil, nil, "NEXT, END", api.ErrNest},
		{nil, nil, "LOOP 2, END", api.ErrNest},
		{nil, nil, "PUSH 1", api.ErrNest},
		{nil, nil, "LOOP 2, JUMP 1, NEXT, END", api.ErrJump},
		{nil, nil, "JUMP 9, END", api.ErrJump},
		{nil, nil, "PUSH 1, CAST, END", api.ErrType},
		{nil, nil, "DROP, END", api.ErrStack},
		{nil, nil, strings.Repeat("PUSH 1, ", 17) + "END", api.ErrStack},
		{[]int{0}, nil, "END", api.ErrLock},
		{nil, nil, "LOCK 0, UNLOCK 0, END", api.ErrLock},
		{nil, nil, "GET 0 0, DROP, END", api.ErrLock},
		{[]int{0}, nil, "LOOP 2, LOCK 0, UNLOCK 0, NEXT, END", api.ErrLock},
		{nil, nil, "LOOP 1000, LOOP 1000, LOOP 1000, NEXT, NEXT, NEXT, END", api.ErrBig},
		{nil, nil, "IN 2, DROP, END", api.ErrTable},
		{nil, []int{0}, "PUSH 1, OUT 1, END", api.ErrTable},
		{[]int{0}, nil, "LOCK 0, GET 0 1, DROP, UNLOCK 0, END", api.ErrTable},
		{[]int{1}, nil, "PUSH 1, LOCK 1, PUT 1 2, UNLOCK 1, END", api.ErrTable},
	}
}

func (f fault) lay(t *image.Task) {
	t.Blocks, t.Outs, t.Code = slices.Clone(f.blocks), slices.Clone(f.outs), row(f.s)
}

// refused is a verdict with an error of check alone.
func refused(at int, e api.Errno) Verdict { return Verdict{E: e, At: at} }

// P15.1: check.All's errors, of the first, a middle and the last task, and of one that is alone: nothing beside them.
func TestTasksThatCantBeRun(t *testing.T) {
	for _, f := range faults() {
		for _, i := range []int{0, 3, 7} {
			im := eight().image()
			f.lay(&im.Tasks[i])
			checkImage(t, im, refused(i, f.e))
			im.Tasks = im.Tasks[i : i+1]
			checkImage(t, im, refused(0, f.e))
		}
	}
}

// P15.1: of several tasks that can't be run the first one is told.
func TestFirstThatCantBeRun(t *testing.T) {
	for _, f := range faults() {
		for _, g := range faults() {
			if f.e == g.e {
				continue
			}
			for _, places := range [][2]int{{0, 1}, {0, 7}, {3, 5}, {6, 7}} {
				im := eight().image()
				f.lay(&im.Tasks[places[0]])
				g.lay(&im.Tasks[places[1]])
				for k := range im.Tasks {
					im.Tasks[k].Outs = nil
				}
				want := wantJudge(im)
				if want.At != places[0] {
					t.Fatal(want)
				}
				checkImage(t, im, want)
			}
		}
	}
}

// P15.1, R2: check.All's error goes ahead of tasks that come too late, wherever these stand.
func TestCheckGoesAheadOfTimes(t *testing.T) {
	for _, f := range faults() {
		for _, i := range []int{0, 3, 7} {
			for late := range 8 {
				im := eight().image()
				f.lay(&im.Tasks[i])
				im.Tasks[late].Deadline = 1
				checkImage(t, im, refused(i, f.e))
			}
		}
	}
}

// wrongOnes is images that are not right, each for another reason.
func wrongOnes() []image.Image {
	all := []image.Image{{}}
	add := func(change func(im *image.Image)) {
		im := eight().image()
		change(&im)
		all = append(all, im)
	}
	add(func(im *image.Image) { im.Switch = -1 })
	add(func(im *image.Image) { im.Switch = 101 })
	add(func(im *image.Image) { im.Latch = 0 })
	add(func(im *image.Image) { im.Commit = top })
	add(func(im *image.Image) { im.Inputs = 17 })
	add(func(im *image.Image) { im.Safe = make([]int, 17) })
	add(func(im *image.Image) { im.Blocks = append(im.Blocks, nil) })
	add(func(im *image.Image) { im.Blocks = make([][]int, 9) })
	add(func(im *image.Image) { im.Blocks = im.Blocks[:4] })
	add(func(im *image.Image) { im.Tasks = nil })
	add(func(im *image.Image) { im.Tasks = append(im.Tasks, im.Tasks[0]) })
	for _, i := range []int{0, 3, 7} {
		add(func(im *image.Image) { im.Tasks[i].Prio = 0 })
		add(func(im *image.Image) { im.Tasks[i].Prio = 101 })
		add(func(im *image.Image) { im.Tasks[i].Period = 0 })
		add(func(im *image.Image) { im.Tasks[i].Period = limit + 1 })
		add(func(im *image.Image) { im.Tasks[i].Deadline = 0 })
		add(func(im *image.Image) { im.Tasks[i].Deadline = im.Tasks[i].Period + 1 })
		add(func(im *image.Image) { im.Tasks[i].Jitter = bottom })
		add(func(im *image.Image) { im.Tasks[i].Jitter = limit + 1 })
		add(func(im *image.Image) { im.Tasks[i].Blocks = []int{2, 1} })
		add(func(im *image.Image) { im.Tasks[i].Blocks = []int{6} })
		add(func(im *image.Image) { im.Tasks[i].Outs = []int{3} })
		add(func(im *image.Image) { im.Tasks[i].Code = nil })
		add(func(im *image.Image) { im.Tasks[i].Code = []api.Instr{{Op: 26}, {Op: op.End}} })
	}
	return all
}

// P15.1: an image that is not right: ErrTable at -1, and nothing beside it, with tasks that come too late or can't be run, too.
func TestImagesThatAreNotRight(t *testing.T) {
	for k, im := range wrongOnes() {
		if image.Right(im) {
			t.Fatalf("%d is right", k)
		}
		checkImage(t, im, refused(-1, api.ErrTable))
	}
	for _, f := range faults() {
		for _, i := range []int{0, 3, 7} {
			im := eight().image()
			f.lay(&im.Tasks[i])
			im.Tasks[4].Deadline, im.Switch = 1, 101
			checkImage(t, im, refused(-1, api.ErrTable))
		}
	}
}

// P15.1: all choices of eight tasks that come too late, by one slot or by many: the first one's place, with all rows and ceilings, and no responses.
func TestTasksThatComeTooLate(t *testing.T) {
	responses := eight().want().Responses
	for mask := range 1 << 8 {
		for by := range 2 {
			s, first, e := eight(), -1, api.OK
			for i, n := range slices.Backward(responses) {
				if mask>>i&1 == 1 {
					s.plans[i].deadline = []int{n - 1, 1}[(by+i)%2]
					first, e = i, api.ErrTime
				}
			}
			checkEnd(t, s, first, e)
			v := Judge(s.image())
			if len(v.Rows) != 8 || !slices.Equal(v.Ceilings, []int{1, 50, 90, 0, 5, 0}) || (len(v.Responses) == 8) != (mask == 0) {
				t.Errorf("%d: %v", mask, v)
			}
		}
	}
}

// P15.1: a deadline just at the response, and one below it, of each task, alone and of all at once.
func TestDeadlineAtTheResponse(t *testing.T) {
	for _, whole := range []setting{three(), eight()} {
		responses := whole.want().Responses
		for i, n := range responses {
			s := setting{whole.change, whole.latch, whole.commit, whole.blocks, slices.Clone(whole.plans)}
			s.plans[i].deadline = n
			checkEnd(t, s, -1, api.OK)
			s.plans[i].deadline = n - 1
			checkEnd(t, s, i, api.ErrTime)
			for k, m := range responses {
				s.plans[k].deadline = m
			}
			checkEnd(t, s, -1, api.OK)
			s.plans[i].deadline--
			checkEnd(t, s, i, api.ErrTime)
		}
	}
}

// P15.1: a period, or a jitter, with which one more instance just fits in, and just not.
func TestOneMoreInstance(t *testing.T) {
	s := setting{latch: 1, commit: 1, plans: []plan{
		{prio: 2, period: 9, deadline: 9, pauses: []int{1}},
		{prio: 1, period: 90, deadline: 90, pauses: []int{2}},
	}}
	for _, c := range [][3]int{{9, 0, 9}, {8, 0, 13}, {10, 0, 9}, {9, 1, 13}, {10, 1, 9}, {9, 5, 13}, {13, 4, 9}, {13, 5, 13}, {5, 0, 25}, {5, 1, 29}} {
		s.plans[0].period, s.plans[0].deadline, s.plans[0].jitter = c[0], min(9, c[0]), c[1]
		v := checkSetting(t, s)
		if v.E != api.OK || v.Responses[1] != c[2] || v.Responses[0] != 4+c[1] {
			t.Errorf("%v: %v", c, v)
		}
	}
	s.plans[0].period, s.plans[0].deadline, s.plans[0].jitter = 4, 4, 0
	checkEnd(t, s, 1, api.ErrTime)
}

// P15.1: a jitter counts for the task itself, and for those below it, and above the deadline it is too late.
func TestJitters(t *testing.T) {
	s := setting{latch: 1, commit: 1, plans: []plan{{prio: 1, period: 50, deadline: 40, jitter: 36, pauses: []int{1}}}}
	checkImage(t, s.image(), Verdict{At: -1, Rows: []rta.Row{{C: 4, T: 50, D: 40, J: 36, P: 1}}, Responses: []int{40}})
	for _, n := range []int{37, 40, 41, 1000, limit} {
		s.plans[0].jitter = n
		checkImage(t, s.image(), Verdict{E: api.ErrTime, At: 0, Rows: []rta.Row{{C: 4, T: 50, D: 40, J: n, P: 1}}})
	}
}

// P15.1: as great numbers as an image can have: too late, never too great.
func TestGreatNumbers(t *testing.T) {
	long := row("LOOP 1000, LOOP 1000, NEXT, NEXT, LOOP 1000, " + strings.Repeat("JUMP 0, ", 45) + "NEXT, LOOP 572, NEXT, END")
	one := image.Task{Prio: 100, Period: 1, Deadline: 1, Jitter: limit, Code: long}
	im := image.Image{Switch: 100, Latch: 100, Commit: 100, Tasks: slices.Repeat([]image.Task{one}, 8)}
	want := Verdict{E: api.ErrTime, At: 0, Rows: slices.Repeat([]rta.Row{{C: limit + 400, T: 1, D: 1, J: limit, P: 100}}, 8)}
	checkImage(t, im, want)
	for i := range im.Tasks {
		im.Tasks[i].Prio, want.Rows[i].P = 1+i, 1+i
		im.Tasks[i].Period, im.Tasks[i].Deadline, want.Rows[i].T, want.Rows[i].D = limit, limit, limit, limit
	}
	checkImage(t, im, want)
	im = image.Image{Latch: 1, Commit: 1, Tasks: []image.Task{{Prio: 1, Period: limit, Deadline: limit, Code: long}}}
	checkImage(t, im, Verdict{E: api.ErrTime, At: 0, Rows: []rta.Row{{C: limit + 2, T: limit, D: limit, P: 1}}})
	im.Tasks[0].Code = row("LOOP 1000, LOOP 1000, NEXT, NEXT, LOOP 1000, " + strings.Repeat("JUMP 0, ", 45) + "NEXT, LOOP 570, NEXT, END")
	checkImage(t, im, Verdict{At: -1, Rows: []rta.Row{{C: limit, T: limit, D: limit, P: 1}}, Responses: []int{limit}})
	im.Latch = 2
	checkImage(t, im, Verdict{E: api.ErrTime, At: 0, Rows: []rta.Row{{C: limit + 1, T: limit, D: limit, P: 1}}})
}

// P15.1: the most steps count, not the fewest, in a row's slots and in the waits.
func TestWorstCounts(t *testing.T) {
	im := three().image()
	im.Tasks[0].Code = row("IN 0, PUSH 0, TWO 12, BRANCH 2, LOOP 50, NEXT, LOCK 0, LOCK 2, IN 1, PUSH 0, TWO 12, BRANCH 2, LOOP 30, NEXT, UNLOCK 2, UNLOCK 0, END")
	v := Judge(im)
	if v.E != api.OK || v.Rows[0].C != 7+4+51+2+4+31+3 || v.Rows[1].B != 36 || v.Rows[2].B != 38 {
		t.Error(v)
	}
	checkImage(t, im, wantJudge(im))
}

// P15.1: tasks that read inputs and words, and write outputs and words.
func TestTasksThatReadAndWrite(t *testing.T) {
	im := image.Image{
		Switch: 2, Latch: 3, Commit: 4, Inputs: 2, Safe: []int{7, 8, 9}, Blocks: [][]int{{1, 2}, {3}},
		Tasks: []image.Task{
			{Prio: 6, Period: 90, Deadline: 80, Jitter: 2, Blocks: []int{0}, Outs: []int{0, 2}, Code: row("IN 1, LOCK 0, PUT 0 1, GET 0 0, UNLOCK 0, OUT 2, PUSH 5, OUT 0, END")},
			{Prio: 8, Period: 95, Deadline: 85, Jitter: 1, Blocks: []int{0, 1}, Outs: []int{1}, Code: row("LOCK 0, GET 0 1, LOCK 1, PUT 1 0, UNLOCK 1, UNLOCK 0, IN 0, OUT 1, END")},
		},
	}
	checkImage(t, im, Verdict{
		At:        -1,
		Rows:      []rta.Row{{C: 20, T: 90, D: 80, J: 2, P: 6}, {C: 20, B: 3, T: 95, D: 85, J: 1, P: 8}},
		Responses: []int{42, 24},
		Ceilings:  []int{8, 8},
	})
}

// R1: a nil list is an empty one.
func TestNilAndEmpty(t *testing.T) {
	im := image.Image{Latch: 1, Commit: 1, Tasks: []image.Task{{Prio: 1, Period: 9, Deadline: 9, Code: row("END")}}}
	want := Verdict{At: -1, Rows: []rta.Row{{C: 3, T: 9, D: 9, P: 1}}, Responses: []int{3}}
	checkImage(t, im, want)
	im.Safe, im.Blocks, im.Tasks[0].Blocks, im.Tasks[0].Outs = []int{}, [][]int{}, []int{}, []int{}
	checkImage(t, im, want)
	im.Tasks = []image.Task{}
	checkImage(t, im, refused(-1, api.ErrTable))
}

// checkRefused asks Load of bytes that are none of an image.
func checkRefused(t *testing.T, s string, e api.Errno) {
	t.Helper()
	if _, words := image.Decode(s); words != e {
		t.Fatalf("Decode answers %d, not %d: %q", words, e, s)
	}
	if im, v := Load(s); !isZero(im) || !same(v, refused(-1, e)) {
		t.Fatalf("Load answers %v, not error %d: %q", v, e, s)
	}
}

func isZero(im image.Image) bool { return image.Same(im, image.Image{}) }

// P15.2: image.Decode's errors, each kind: at -1, with nothing else, and the zero image.
func TestLoadOfBytesThatAreNone(t *testing.T) {
	head := "PLC1" + code.Put(0) + code.Put(1) + code.Put(1) + code.Put(0) + code.List(nil)
	one := head + code.Put(0) + code.Put(1) + code.Put(1) + code.Put(9) + code.Put(9) + code.Put(0) + code.List(nil) + code.List(nil)
	checkRefused(t, "", api.ErrShort)
	checkRefused(t, "P", api.ErrShort)
	checkRefused(t, "abc", api.ErrCrc)
	checkRefused(t, crc.Seal(""), api.ErrForm)
	checkRefused(t, crc.Seal("PLC2"+head[4:]), api.ErrForm)
	checkRefused(t, crc.Seal("PLC1"), api.ErrShort)
	checkRefused(t, crc.Seal(head), api.ErrShort)
	checkRefused(t, crc.Seal(head+code.Put(9)), api.ErrBig)
	checkRefused(t, crc.Seal(head+code.Put(-1)), api.ErrForm)
	checkRefused(t, crc.Seal(head+code.Put(0)+code.Put(0)), api.ErrTable)
	checkRefused(t, crc.Seal(one+code.Put(1)+"\x00"), api.ErrOp)
	checkRefused(t, crc.Seal(one+code.Put(1)+"\x19\x19"), api.ErrForm)
	checkRefused(t, crc.Seal(one+code.Put(2)+"\x19"), api.ErrShort)
	checkRefused(t, crc.Seal(one+code.Put(4001)), api.ErrBig)
	checkRefused(t, crc.Seal(one+code.Put(0)), api.ErrTable)
	s := crc.Seal(one + code.Put(1) + "\x19")
	if im, v := Load(s); image.Encode(im) != s || !same(v, Verdict{At: -1, Rows: []rta.Row{{C: 3, T: 9, D: 9, P: 1}}, Responses: []int{3}}) {
		t.Error(v)
	}
}

// fine is the bytes of images that are admitted, that come too late, and that can't be run.
func fine() []string {
	late, wrong := three().image(), three().image()
	late.Tasks[2].Deadline = 1
	wrong.Tasks[1].Blocks, wrong.Tasks[1].Code = nil, row("IN 2, DROP, END")
	var all []string
	for _, im := range []image.Image{three().image(), late, wrong, eight().image()} {
		all = append(all, image.Encode(im))
	}
	return all
}

// P15.2: bytes that are cut off at each place, with their old sum's bytes or sealed anew, and bytes with one more.
func TestLoadOfBytesThatAreCutOff(t *testing.T) {
	for _, s := range fine() {
		inner := s[:len(s)-2]
		for at := range s {
			e := api.ErrCrc
			if at < 2 {
				e = api.ErrShort
			}
			checkRefused(t, s[:at], e)
		}
		for at := range inner {
			e := api.ErrShort
			if at < 4 {
				e = api.ErrForm
			}
			checkRefused(t, crc.Seal(inner[:at]), e)
		}
		checkRefused(t, s+"\x01", api.ErrCrc)
		checkRefused(t, crc.Seal(inner+"\x00"), api.ErrForm)
	}
}

// P15.2: each byte turned: ErrCrc; and each one turned and sealed anew: what Decode, and Judge, tell.
func TestLoadOfBytesThatAreTurned(t *testing.T) {
	seen := map[api.Errno]int{}
	for _, s := range fine()[:3] {
		for at := range s {
			for _, turn := range []byte{1, 2, 4, 32, 128, 255} {
				b := []byte(s)
				b[at] ^= turn
				checkRefused(t, string(b), api.ErrCrc)
				if at < len(s)-2 {
					seen[checkLoad(t, crc.Seal(string(b[:len(b)-2])))]++
				}
			}
		}
	}
	for _, e := range []api.Errno{api.OK, api.ErrShort, api.ErrForm, api.ErrBig, api.ErrOp, api.ErrTable, api.ErrNest, api.ErrLock, api.ErrTime} {
		if seen[e] == 0 {
			t.Errorf("error %d never came: %v", e, seen)
		}
	}
}

// checkLoad asks Load of any bytes for what P15.2's words say, and answers the error.
func checkLoad(t *testing.T, s string) api.Errno {
	t.Helper()
	want, e := image.Decode(s)
	if e != api.OK {
		checkRefused(t, s, e)
		return e
	}
	im, v := Load(s)
	if !image.Same(im, want) || !same(v, wantJudge(want)) {
		t.Fatalf("Load answers %v, not %v: %q", v, wantJudge(want), s)
	}
	return v.E
}

// P15.2: bytes whose image is refused by check.All, or comes too late: the image, and what Judge tells.
func TestLoadOfImagesThatAreRefused(t *testing.T) {
	s := fine()
	if im, v := Load(s[1]); image.Encode(im) != s[1] || v.E != api.ErrTime || v.At != 2 || len(v.Rows) != 3 || len(v.Ceilings) != 3 || len(v.Responses) != 0 {
		t.Error(v)
	}
	if im, v := Load(s[2]); image.Encode(im) != s[2] || !same(v, refused(1, api.ErrTable)) {
		t.Error(v)
	}
	for _, im := range wrongOnes() {
		checkRefused(t, image.Encode(im), api.ErrShort)
	}
}

// pick is one of a few numbers.
func pick(r *rand.Rand, l ...int) int { return l[r.Intn(len(l))] }

// somePlan is a plan with some of so many blocks; most have a deadline that is easily met.
func somePlan(r *rand.Rand, blocks, tight int) plan {
	p := plan{prio: pick(r, 1, 3, 3, 7, 7, 50, 100, 1+r.Intn(100))}
	for b := range blocks {
		if r.Intn(3) == 0 {
			p.blocks = append(p.blocks, b)
		}
	}
	for range 2*len(p.blocks) + 1 {
		p.pauses = append(p.pauses, pick(r, 0, 0, 1, 2, r.Intn(40)))
	}
	p.period = 20 + r.Intn(tight)
	p.deadline = max(1, p.period-r.Intn(1+p.period/4))
	p.jitter = pick(r, 0, 0, r.Intn(9), r.Intn(1+p.deadline/2))
	return p
}

func someSetting(r *rand.Rand) setting {
	s := setting{change: pick(r, 0, 1, r.Intn(9)), latch: 1 + r.Intn(5), commit: 1 + r.Intn(5), blocks: r.Intn(9)}
	tight := pick(r, 100, 500, 2000, 9000)
	for range 1 + r.Intn(8) {
		s.plans = append(s.plans, somePlan(r, s.blocks, tight))
	}
	return s
}

// P15.1, P15.3: many settings: all numbers, and of what is admitted a response for each task, which is the least one, at most its deadline.
func TestManySettings(t *testing.T) {
	r, ends := rand.New(rand.NewSource(15)), map[int]int{}
	for range 4000 {
		s := someSetting(r)
		checkSetting(t, s)
		v := Judge(s.image())
		ends[v.At]++
		if v.E != api.OK {
			if v.E != api.ErrTime || len(v.Responses) != 0 || len(v.Rows) != len(s.plans) || len(v.Ceilings) != s.blocks {
				t.Errorf("%v", v)
			}
			continue
		}
		if len(v.Responses) != len(s.plans) {
			t.Fatalf("%d responses of %d tasks", len(v.Responses), len(s.plans))
		}
		for i, p := range s.plans {
			checkLeast(t, v, i)
			if v.Responses[i] > p.deadline {
				t.Errorf("response %d of the deadline %d: %v", v.Responses[i], p.deadline, v)
			}
		}
	}
	for at := -1; at < 6; at++ {
		if ends[at] < 20 || ends[-1] < 1000 {
			t.Errorf("too few of one kind: %v", ends)
		}
	}
}

// checkLeast asks whether a response, without the jitter, is the least number that is its own sum.
func checkLeast(t *testing.T, v Verdict, i int) {
	t.Helper()
	own := v.Responses[i] - v.Rows[i].J
	for w := range own {
		if sum(v.Rows, i, w) <= w {
			t.Fatalf("%d is enough for task %d: %v", w, i, v)
		}
	}
	if sum(v.Rows, i, own) != own {
		t.Fatalf("%d is not its own sum: %v", own, v)
	}
}

// P15.3: a deadline at each task's response is admitted, and none below it; so what is admitted hangs on the responses alone.
func TestDeadlinesOfManySettings(t *testing.T) {
	r, admitted := rand.New(rand.NewSource(153)), 0
	for range 3000 {
		s := someSetting(r)
		v := s.want()
		if v.E != api.OK {
			continue
		}
		admitted++
		for k, n := range v.Responses {
			s.plans[k].deadline = n
		}
		checkEnd(t, s, -1, api.OK)
		i := r.Intn(len(s.plans))
		s.plans[i].deadline--
		checkEnd(t, s, i, api.ErrTime)
	}
	if admitted < 500 {
		t.Errorf("just %d are admitted", admitted)
	}
}

// spoil changes an image at one place or more; what comes of it may be right, or not, and its tasks may be such that can be run, or not.
func spoil(r *rand.Rand, im *image.Image) {
	for range 1 + r.Intn(2) {
		t := &im.Tasks[r.Intn(len(im.Tasks))]
		if len(t.Code) == 0 {
			continue
		}
		at := r.Intn(len(t.Code))
		switch r.Intn(9) {
		case 0:
			t.Deadline = 1 + r.Intn(t.Period)
		case 1:
			t.Jitter = pick(r, 0, t.Deadline, limit, limit+1, -1)
		case 2:
			t.Blocks = append(t.Blocks, r.Intn(8))
		case 3:
			t.Code[at].A += r.Intn(3) - 1
		case 4:
			t.Code[at] = api.Instr{Op: 1 + r.Intn(25), A: r.Intn(3) * r.Intn(8)}
		case 5:
			t.Code = slices.Delete(t.Code, at, at+1)
		case 6:
			im.Switch, im.Latch = r.Intn(104), r.Intn(104)
		case 7:
			faults()[r.Intn(len(faults()))].lay(t)
		case 8:
			t.Prio = pick(r, 0, 1, 50, 100, 101)
		}
	}
}

// P15.1, P15.2: images that are near to such that are admitted, against the chapter's words written again; all errors are among them.
func TestImagesNearToSuch(t *testing.T) {
	r, seen := rand.New(rand.NewSource(151)), map[api.Errno]int{}
	for range 6000 {
		im := someSetting(r).image()
		spoil(r, &im)
		want := wantJudge(im)
		checkImage(t, im, want)
		seen[want.E]++
	}
	for _, e := range []api.Errno{api.OK, api.ErrTime, api.ErrNest, api.ErrJump, api.ErrLock, api.ErrType, api.ErrStack, api.ErrBig, api.ErrTable} {
		if seen[e] < 30 {
			t.Errorf("error %d came too seldom: %v", e, seen)
		}
	}
}

// P15.2, R1: bytes that are near to an image's, sealed anew, and bytes of any kind.
func TestBytesNearToImages(t *testing.T) {
	r, seen := rand.New(rand.NewSource(152)), map[api.Errno]int{}
	for range 5000 {
		s := image.Encode(someSetting(r).image())
		b := []byte(s[:len(s)-2])
		for range r.Intn(3) {
			b[r.Intn(len(b))] = byte(pick(r, 0, 1, 2, 3, 128, 255, r.Intn(256)))
		}
		seen[checkLoad(t, crc.Seal(string(b)))]++
		any := make([]byte, r.Intn(60))
		r.Read(any)
		checkLoad(t, string(any))
		checkLoad(t, crc.Seal("PLC1"+string(any)))
	}
	for _, e := range []api.Errno{api.OK, api.ErrTime, api.ErrShort, api.ErrForm, api.ErrBig, api.ErrTable} {
		if seen[e] < 30 {
			t.Errorf("error %d came too seldom: %v", e, seen)
		}
	}
}

// R1: whatever is handed in, the calls end.
func TestAnyArgumentEnds(t *testing.T) {
	long := three().image()
	long.Tasks = slices.Repeat(long.Tasks, 1<<14)
	checkImage(t, long, refused(-1, api.ErrTable))
	long = three().image()
	long.Tasks[1].Code = slices.Repeat(row("LOOP 1000"), 1<<18)
	checkImage(t, long, refused(-1, api.ErrTable))
	long = three().image()
	long.Tasks[1].Blocks, long.Blocks = make([]int, 1<<18), make([][]int, 1<<18)
	checkImage(t, long, refused(-1, api.ErrTable))
	for _, n := range []int{bottom, -1, 1 << 32, 1<<62 - 1, 1 << 62, top} {
		for _, change := range []func(im *image.Image){
			func(im *image.Image) { im.Switch = n },
			func(im *image.Image) { im.Tasks[0].Prio = n },
			func(im *image.Image) { im.Tasks[1].Period, im.Tasks[1].Deadline = n, n },
			func(im *image.Image) { im.Tasks[2].Jitter = n },
			func(im *image.Image) { im.Tasks[2].Blocks = []int{n} },
			func(im *image.Image) { im.Tasks[0].Code[0] = api.Instr{Op: op.Lock, A: n} },
		} {
			im := three().image()
			change(&im)
			checkImage(t, im, refused(-1, api.ErrTable))
		}
	}
	checkRefused(t, crc.Seal("PLC1"+strings.Repeat("\x02", 1<<20)), api.ErrForm)
	checkRefused(t, strings.Repeat("\x00", 1<<20)+"\x01", api.ErrCrc)
}

const markNumber = -777

func roomy(l []int) []int {
	return append(append(make([]int, 0, len(l)+3), l...), markNumber, markNumber, markNumber)[:len(l)]
}

// withRoom is a setting's image whose lists all have room behind, with something in it.
func withRoom(s setting) image.Image {
	im := s.image()
	im.Safe = roomy(im.Safe)
	for i := range im.Blocks {
		im.Blocks[i] = roomy(im.Blocks[i])
	}
	im.Blocks = append(append(make([][]int, 0, len(im.Blocks)+2), im.Blocks...), []int{1}, []int{2})[:len(im.Blocks)]
	for i := range im.Tasks {
		t := &im.Tasks[i]
		t.Blocks, t.Outs = roomy(t.Blocks), roomy(t.Outs)
		behind := api.Instr{Op: op.In, A: markNumber}
		t.Code = append(append(make([]api.Instr, 0, len(t.Code)+2), t.Code...), behind, behind)[:len(t.Code)]
	}
	im.Tasks = append(append(make([]image.Task, 0, len(im.Tasks)+1), im.Tasks...), image.Task{Prio: markNumber, Blocks: []int{3}})[:len(im.Tasks)]
	return im
}

// withAllRoom is an image's copy, with the room behind its lists as if it were theirs.
func withAllRoom(im image.Image) image.Image {
	all := func(l []int) []int { return slices.Clone(l[:cap(l)]) }
	im.Safe = all(im.Safe)
	im.Blocks = slices.Clone(im.Blocks[:cap(im.Blocks)])
	for i := range im.Blocks {
		im.Blocks[i] = all(im.Blocks[i])
	}
	im.Tasks = slices.Clone(im.Tasks[:cap(im.Tasks)])
	for i := range im.Tasks {
		t := &im.Tasks[i]
		t.Blocks, t.Outs, t.Code = all(t.Blocks), all(t.Outs), slices.Clone(t.Code[:cap(t.Code)])
	}
	return im
}

// fill writes over all of a verdict's lists, and over the room behind them.
func fill(v Verdict) {
	for k := range v.Rows[:cap(v.Rows)] {
		v.Rows[:cap(v.Rows)][k] = rta.Row{C: markNumber, B: markNumber, T: markNumber, D: markNumber, J: markNumber, P: markNumber}
	}
	fillNumbers(v.Responses)
	fillNumbers(v.Ceilings)
}

func fillNumbers(l []int) {
	for k := range l[:cap(l)] {
		l[:cap(l)][k] = markNumber
	}
}

// R4: images that are handed in are not changed, nor the room behind their lists, neither by the call nor by what is done with its answer.
func TestImagesHandedInAreNotChanged(t *testing.T) {
	changes := []func(im *image.Image){
		func(im *image.Image) {},
		func(im *image.Image) { im.Tasks[2].Deadline = 1 },
		func(im *image.Image) { im.Latch = 0 },
	}
	for _, f := range faults() {
		changes = append(changes, func(im *image.Image) { f.lay(&im.Tasks[1]) })
	}
	for _, s := range []setting{three(), eight()} {
		for _, change := range changes {
			im := withRoom(s)
			change(&im)
			before := withAllRoom(im)
			fill(Judge(im))
			if !image.Same(withAllRoom(im), before) {
				t.Fatalf("changed: %v", im)
			}
		}
	}
}

// R4, R5: an image that is handed in is not kept: what it becomes later changes no answer that was told, and is seen by the next call.
func TestImagesHandedInAreNotKept(t *testing.T) {
	im := withRoom(eight())
	v := Judge(im)
	im.Tasks[0].Prio, im.Tasks[3].Deadline = 99, 5
	checkImage(t, im, wantJudge(im))
	im.Tasks[1].Blocks[0] = 0
	checkImage(t, im, refused(1, api.ErrLock))
	copy(im.Tasks[0].Code, row("NEXT"))
	checkImage(t, im, refused(0, api.ErrNest))
	clear(im.Tasks)
	clear(im.Blocks)
	if !same(v, eight().want()) {
		t.Errorf("the answer became %v", v)
	}
	checkSetting(t, eight())
}

// R4: what is answered is new memory: a verdict's lists share none with one another, and none with those of other answers.
func TestAnswersShareNothing(t *testing.T) {
	late := eight()
	late.plans[7].deadline = 1
	for _, s := range []setting{eight(), late} {
		first, second := Judge(s.image()), Judge(s.image())
		fillNumbers(first.Responses)
		if want := s.want(); !slices.Equal(first.Rows, want.Rows) || !slices.Equal(first.Ceilings, want.Ceilings) {
			t.Errorf("responses share memory: %v", first)
		}
		fillNumbers(second.Ceilings)
		if want := s.want(); !slices.Equal(second.Rows, want.Rows) || !slices.Equal(second.Responses, want.Responses) {
			t.Errorf("ceilings share memory: %v", second)
		}
		third := Judge(s.image())
		fill(first)
		fill(second)
		if !same(third, s.want()) {
			t.Errorf("answers share memory: %v", third)
		}
		checkSetting(t, s)
	}
}

// R4: an image that is loaded shares no memory with what is told of it, nor with another one that is loaded.
func TestLoadedImagesShareNothing(t *testing.T) {
	for _, s := range fine() {
		want, _ := image.Decode(s)
		im, v := Load(s)
		other, w := Load(s)
		fill(v)
		if !image.Same(im, want) {
			t.Errorf("the image shares memory with what is told of it: %v", im)
		}
		fillImage(im)
		if !image.Same(other, want) || !same(w, wantJudge(want)) {
			t.Errorf("images share memory: %v, %v", other, w)
		}
		fillImage(other)
		if !same(w, wantJudge(want)) {
			t.Errorf("what is told shares memory with the image: %v", w)
		}
		checkLoad(t, s)
	}
}

func fillImage(im image.Image) {
	fillNumbers(im.Safe)
	for _, words := range im.Blocks {
		fillNumbers(words)
	}
	for _, t := range im.Tasks {
		fillNumbers(t.Blocks)
		fillNumbers(t.Outs)
		clear(t.Code[:cap(t.Code)])
	}
	clear(im.Blocks[:cap(im.Blocks)])
	clear(im.Tasks[:cap(im.Tasks)])
}

// R5: the same is answered again, whatever is asked between.
func TestOneAnswer(t *testing.T) {
	late := three()
	late.plans[0].deadline = 1
	for range 3 {
		checkEnd(t, eight(), -1, api.OK)
		checkEnd(t, late, 0, api.ErrTime)
		checkImage(t, image.Image{}, refused(-1, api.ErrTable))
		checkRefused(t, "abc", api.ErrCrc)
		checkEnd(t, three(), -1, api.OK)
	}
}
