package check

import (
	"math/rand"
	"slices"
	"strconv"
	"strings"
	"testing"

	"camshaft/api"
	"camshaft/cost"
	"camshaft/image"
	"camshaft/nest"
	"camshaft/op"
	"camshaft/text"
	"camshaft/vm"
)

const (
	top    = 1<<63 - 1
	bottom = -1 << 63
	limit  = 1 << 20
)

// row is the instructions whose lines, with a comma between, s is.
func row(s string) []api.Instr {
	l, e := text.Parse(strings.ReplaceAll(s, ", ", "\n") + "\n")
	if e != api.OK {
		panic(s)
	}
	return l
}

// show is a row in few letters, of one that is not right too.
func show(l []api.Instr) string {
	s := ""
	for _, i := range l {
		if line := text.Line(i); line != "" {
			s += line[:len(line)-1] + ", "
		} else {
			s += "none, "
		}
	}
	return strings.TrimSuffix(s, ", ")
}

// many is a piece of a row's text so many times, each with a comma behind.
func many(n int, s string) string { return strings.Repeat(s+", ", n) }

// line is an instruction's text, and its numbers.
func line(name string, numbers ...int) string {
	for _, n := range numbers {
		name += " " + strconv.Itoa(n)
	}
	return name
}

// count is how many instructions a piece of a row's text has.
func count(s string) int { return 1 + strings.Count(s, ", ") }

// around is a part, or not, as an input is; 4 steps ahead of it either way.
func around(input int, part string) string {
	return line("IN", input) + ", PUSH 0, TWO 12, " + line("BRANCH", count(part)) + ", " + part
}

// within is a part in the locks of these blocks, each in the one ahead.
func within(blocks []int, part string) string {
	s := ""
	for _, b := range blocks {
		s += line("LOCK", b) + ", "
	}
	s += part
	for _, b := range slices.Backward(blocks) {
		s += ", " + line("UNLOCK", b)
	}
	return s
}

func upTo(n int) []int {
	l := make([]int, n)
	for i := range l {
		l[i] = i
	}
	return l
}

// some is the places whose bits mask has, rising.
func some(mask int) []int {
	var l []int
	for p := range 16 {
		if mask>>p&1 == 1 {
			l = append(l, p)
		}
	}
	return l
}

// words is blocks of so many words.
func words(sizes ...int) [][]int {
	var l [][]int
	for _, n := range sizes {
		l = append(l, make([]int, n))
	}
	return l
}

// task is a task with these Blocks, Outs and Code.
func task(blocks, outs []int, code string) image.Task {
	return image.Task{Prio: 7, Period: 1000, Deadline: 900, Blocks: blocks, Outs: outs, Code: row(code)}
}

// plain is an image of three tasks that can be run; no two of its numbers are alike that count for the slots.
func plain() image.Image {
	return image.Image{
		Switch: 5, Latch: 17, Commit: 31, Inputs: 6,
		Safe:   []int{70, -71, 72, 73, -74, 75},
		Blocks: words(1, 3, 8, 2),
		Tasks: []image.Task{
			task([]int{1, 3}, []int{0, 2}, "LOCK 1, LOCK 3, GET 1 2, PUT 3 1, UNLOCK 3, UNLOCK 1, IN 5, OUT 2, END"),
			task(nil, []int{5}, around(0, "PUSH 4, OUT 5")+", END"),
			task([]int{0, 2}, []int{1, 4}, "IN 0, LOCK 0, PUT 0 0, LOCK 2, GET 2 7, OUT 4, UNLOCK 2, UNLOCK 0, LOOP 9, NEXT, END"),
		},
	}
}

// alone is plain with that task as its only one.
func alone(t image.Task) image.Image {
	im := plain()
	im.Tasks = []image.Task{t}
	return im
}

func deepCopy(im image.Image) image.Image {
	im.Safe = slices.Clone(im.Safe)
	im.Blocks = slices.Clone(im.Blocks)
	for i, w := range im.Blocks {
		im.Blocks[i] = slices.Clone(w)
	}
	im.Tasks = slices.Clone(im.Tasks)
	for i := range im.Tasks {
		t := &im.Tasks[i]
		t.Blocks, t.Outs, t.Code = slices.Clone(t.Blocks), slices.Clone(t.Outs), slices.Clone(t.Code)
	}
	return im
}

// wantTask is P12.1's words again.
func wantTask(im image.Image, i int) api.Errno {
	if !image.Right(im) {
		return api.ErrTable
	}
	if i < 0 || i > len(im.Tasks)-1 {
		return api.ErrNone
	}
	t := im.Tasks[i]
	if _, e := cost.Worst(t.Code); e != api.OK {
		return e
	}
	locks, e := nest.Locks(t.Code)
	if e != api.OK || !slices.Equal(locks, t.Blocks) {
		return api.ErrLock
	}
	for _, x := range t.Code {
		there := true
		switch op.Name(x.Op) {
		case "IN":
			there = x.A < im.Inputs
		case "OUT":
			there = slices.Index(t.Outs, x.A) >= 0
		case "GET", "PUT":
			there = x.B < len(im.Blocks[x.A])
		}
		if !there {
			return api.ErrTable
		}
	}
	return api.OK
}

// wantSlots is P12.3's words again, of a task that can be run.
func wantSlots(im image.Image, i int) int {
	steps, _ := cost.Worst(im.Tasks[i].Code)
	return 2*im.Switch + im.Latch + im.Commit + steps
}

// wantLocked is P12.4's words again, of a task that can be run.
func wantLocked(im image.Image, i int) []int {
	sections, _ := cost.Sections(im.Tasks[i].Code)
	lens := map[int]int{}
	for _, s := range sections {
		lens[s.Block] = s.Len
	}
	var l []int
	for _, b := range im.Tasks[i].Blocks {
		l = append(l, lens[b])
	}
	return l
}

// checkTask asks all three calls for a task's error, and for what is answered beside it.
func checkTask(t *testing.T, im image.Image, i int, want api.Errno) {
	t.Helper()
	if e := wantTask(im, i); e != want {
		t.Fatalf("the test's own words answer %d of task %d, its table %d: %v", e, i, want, im)
	}
	if e := Task(im, i); e != want {
		t.Errorf("Task %d: error %d, not %d: %s", i, e, want, told(im, i))
	}
	slots, lens := 0, []int(nil)
	if want == api.OK {
		slots, lens = wantSlots(im, i), wantLocked(im, i)
	}
	if n, e := Slots(im, i); n != slots || e != want {
		t.Errorf("Slots of %d: %d, error %d, not %d, %d: %s", i, n, e, slots, want, told(im, i))
	}
	if l, e := Locked(im, i); !slices.Equal(l, lens) || e != want {
		t.Errorf("Locked of %d: %v, error %d, not %v, %d: %s", i, l, e, lens, want, told(im, i))
	}
}

// told is a task in few letters.
func told(im image.Image, i int) string {
	if i < 0 || i >= len(im.Tasks) {
		return "no task"
	}
	t := im.Tasks[i]
	return numbers(t.Blocks) + "; " + numbers(t.Outs) + "; " + show(t.Code)
}

func numbers(l []int) string {
	s := ""
	for _, n := range l {
		s += strconv.Itoa(n) + " "
	}
	return s
}

// checkAll asks All for a place and an error.
func checkAll(t *testing.T, im image.Image, at int, want api.Errno) {
	t.Helper()
	if n, e := All(im); n != at || e != want {
		t.Errorf("All: %d, error %d, not %d, %d: %v", n, e, at, want, im)
	}
}

// P12.1: the chapter's example.
func TestExample(t *testing.T) {
	checkTask(t, alone(task([]int{0}, nil, "END")), 0, api.ErrLock)
	checkTask(t, alone(task([]int{0}, nil, "LOCK 0, UNLOCK 0, END")), 0, api.OK)
}

// P12.1, P12.2: tasks that can be run, each at its place.
func TestPlain(t *testing.T) {
	im := plain()
	for i := range im.Tasks {
		checkTask(t, im, i, api.OK)
	}
	checkAll(t, im, -1, api.OK)
}

// wrongOnes is images that are not right, each for another reason; their tasks can be run, as far as they are there.
func wrongOnes() []image.Image {
	var all []image.Image
	add := func(change func(im *image.Image)) {
		im := plain()
		change(&im)
		all = append(all, im)
	}
	add(func(im *image.Image) { *im = image.Image{} })
	add(func(im *image.Image) { im.Switch = -1 })
	add(func(im *image.Image) { im.Switch = 101 })
	add(func(im *image.Image) { im.Latch = 0 })
	add(func(im *image.Image) { im.Latch = 101 })
	add(func(im *image.Image) { im.Commit = 0 })
	add(func(im *image.Image) { im.Commit = top })
	add(func(im *image.Image) { im.Inputs = 17 })
	add(func(im *image.Image) { im.Safe = make([]int, 17) })
	add(func(im *image.Image) { im.Safe = nil })
	add(func(im *image.Image) { im.Blocks = append(im.Blocks, words(1, 1, 1, 1, 1)...) })
	add(func(im *image.Image) { im.Blocks = append(im.Blocks, nil) })
	add(func(im *image.Image) { im.Blocks[2] = make([]int, 9) })
	add(func(im *image.Image) { im.Blocks = im.Blocks[:3] })
	add(func(im *image.Image) { im.Tasks = nil })
	add(func(im *image.Image) {
		im.Tasks = slices.Repeat([]image.Task{task(nil, nil, "END")}, 9)
	})
	for i := range plain().Tasks {
		add(func(im *image.Image) { im.Tasks[i].Prio = 0 })
		add(func(im *image.Image) { im.Tasks[i].Period = limit + 1 })
		add(func(im *image.Image) { im.Tasks[i].Deadline = 1001 })
		add(func(im *image.Image) { im.Tasks[i].Jitter = -1 })
		add(func(im *image.Image) { im.Tasks[i].Blocks = []int{3, 1} })
		add(func(im *image.Image) { im.Tasks[i].Blocks = []int{4} })
		add(func(im *image.Image) { im.Tasks[i].Outs = []int{3, 3} })
		add(func(im *image.Image) { im.Tasks[i].Outs = im.Tasks[(i+1)%3].Outs })
		add(func(im *image.Image) { im.Tasks[i].Code = nil })
		add(func(im *image.Image) { im.Tasks[i].Code = slices.Repeat(row("JUMP 0"), 201) })
		add(func(im *image.Image) { im.Tasks[i].Code = append(row("END"), api.Instr{Op: 26}) })
		add(func(im *image.Image) { im.Tasks[i].Code = []api.Instr{{Op: op.In, A: 16}, {Op: op.End}} })
	}
	return all
}

// places is places of tasks: some that are there, and all kinds that are not.
func places(many int) []int {
	return []int{bottom, bottom + 1, -many, -2, -1, 0, 1, many - 1, many, many + 1, 8, 9, 64, 1 << 32, 1<<32 + 1, top}
}

// P12.1, P12.2: an image that is not right is ErrTable whichever task is asked for, one that is not there, too.
func TestImagesThatAreNotRight(t *testing.T) {
	for k, im := range wrongOnes() {
		if image.Right(im) {
			t.Fatalf("%d is right", k)
		}
		for _, i := range places(len(im.Tasks)) {
			checkTask(t, im, i, api.ErrTable)
		}
		checkAll(t, im, -1, api.ErrTable)
	}
}

// P12.1: the tasks that are there, from the first to the last one, and places at which there is none.
func TestPlacesOfTasks(t *testing.T) {
	for many := 1; many <= 8; many++ {
		im := plain()
		im.Tasks = nil
		for i := range many {
			im.Tasks = append(im.Tasks, task(nil, nil, line("LOOP", 10*i+1)+", NEXT, END"))
		}
		for _, i := range places(many) {
			want := api.OK
			if i < 0 || i >= many {
				want = api.ErrNone
			}
			checkTask(t, im, i, want)
		}
		for i := range many {
			if n, e := Slots(im, i); n != 5+17+(10*i+3)+31+5 || e != api.OK {
				t.Errorf("task %d of %d has %d slots, error %d", i, many, n, e)
			}
		}
	}
}

// piece is a part of a row's text that is refused with an error.
type piece struct {
	s string
	e api.Errno
}

// stepPieces has each error of cost.Worst that an image which is right can have.
func stepPieces() []piece {
	return []piece{
		{"NEXT", api.ErrNest},
		{"LOOP 2", api.ErrNest},
		{"UNLOCK 0", api.ErrNest},
		{"END", api.ErrNest},
		{"JUMP 199", api.ErrJump},
		{"LOOP 2, JUMP 1, NEXT", api.ErrJump},
		{"GET 0 0, DROP", api.ErrLock},
		{"PUSH 1, PUT 2 0", api.ErrLock},
		{"LOOP 2, LOCK 3, UNLOCK 3, NEXT", api.ErrLock},
		{"JUMP 1, JUMP 0", api.ErrJump},
		{"PUSH 1, CAST", api.ErrType},
		{"LOOP 2, PUSH 1, NEXT", api.ErrType},
		{"DROP", api.ErrStack},
		{many(16, "PUSH 1") + "PUSH 1", api.ErrStack},
		{"LOOP 1000, LOOP 1000, LOOP 2, NEXT, NEXT, NEXT", api.ErrBig},
		{around(0, "LOOP 1000, LOOP 1000, LOOP 2, NEXT, NEXT, NEXT"), api.ErrBig},
	}
}

// placePieces is what is read, or written, where there is nothing; the middle task of host may not.
func placePieces() []piece {
	var all []piece
	for _, s := range []string{"IN 6, DROP", "IN 15, DROP", "PUSH 1, OUT 0", "PUSH 1, OUT 3", "PUSH 1, OUT 15"} {
		all = append(all, piece{s, api.ErrTable})
	}
	return all
}

// lockedPlacePieces is the same, of the block that host's middle task locks.
func lockedPlacePieces() []piece {
	return []piece{{"GET 1 3, DROP", api.ErrTable}, {"PUSH 1, PUT 1 7", api.ErrTable}}
}

// otherBlocks is Blocks that are not just those that host's middle task locks.
func otherBlocks() [][]int {
	return [][]int{nil, {}, {0}, {2}, {0, 1}, {1, 2}, {1, 3}, {0, 1, 2, 3}, {0, 2}}
}

// host is an image whose middle task locks block 1, with parts ahead of that, in the lock, and behind it; each has a comma behind, or is empty.
func host(ahead, locked, behind string) image.Image {
	im := plain()
	im.Tasks[1] = task([]int{1}, []int{5}, ahead+"LOCK 1, "+locked+"UNLOCK 1, "+behind+"END")
	return im
}

// hosts is host with these parts, each in each place.
func hosts(s string) []image.Image {
	s += ", "
	return []image.Image{host(s, "", ""), host("", s, ""), host("", "", s)}
}

// checkMiddle asks for the error of the middle task; the other ones can be run.
func checkMiddle(t *testing.T, im image.Image, want api.Errno) {
	t.Helper()
	checkTask(t, im, 0, api.OK)
	checkTask(t, im, 1, want)
	checkTask(t, im, 2, api.OK)
	if want != api.OK {
		checkAll(t, im, 1, want)
	} else {
		checkAll(t, im, -1, want)
	}
}

// P12.1: each error alone: of each of its kinds, ahead of a lock, in it, and behind it.
func TestErrorsAlone(t *testing.T) {
	for _, s := range []string{"JUMP 0", "IN 5, DROP", "PUSH 1, OUT 5", "LOOP 1000, LOOP 900, NEXT, NEXT"} {
		for _, im := range hosts(s) {
			checkMiddle(t, im, api.OK)
		}
	}
	for _, p := range append(stepPieces(), placePieces()...) {
		for _, im := range hosts(p.s) {
			checkMiddle(t, im, p.e)
		}
	}
	for _, p := range lockedPlacePieces() {
		checkMiddle(t, host("", p.s+", ", ""), p.e)
	}
	for _, blocks := range otherBlocks() {
		im := host("", "GET 1 2, DROP, ", "")
		im.Tasks[1].Blocks = blocks
		checkMiddle(t, im, api.ErrLock)
	}
}

// P12.1, R2: cost.Worst's error goes ahead of Blocks that are not those that are locked, and of what is not there, wherever either stands; the locks go ahead of what is not there.
func TestErrorsTogether(t *testing.T) {
	for _, p := range placePieces() {
		for _, im := range hosts(p.s) {
			checkWithOtherBlocks(t, im, api.ErrLock)
		}
	}
	for _, p := range lockedPlacePieces() {
		checkWithOtherBlocks(t, host("", p.s+", ", ""), api.ErrLock)
	}
	for _, first := range stepPieces() {
		for _, im := range hosts(first.s) {
			checkWithOtherBlocks(t, im, first.e)
		}
		for _, second := range placePieces() {
			for _, s := range []string{first.s + ", " + second.s, second.s + ", " + first.s} {
				if l := row(s); len(l) > 180 {
					t.Fatal(s)
				}
				for _, im := range hosts(s) {
					checkMiddle(t, im, first.e)
					checkWithOtherBlocks(t, im, first.e)
				}
			}
		}
		for _, second := range lockedPlacePieces() {
			for _, im := range []image.Image{
				host(first.s+", ", second.s+", ", ""), host("", second.s+", ", first.s+", "),
				host("", first.s+", "+second.s+", ", ""), host("", second.s+", "+first.s+", ", ""),
			} {
				checkMiddle(t, im, first.e)
				checkWithOtherBlocks(t, im, first.e)
			}
		}
	}
}

// checkWithOtherBlocks asks for the error of the middle task, if its Blocks are not those that it locks.
func checkWithOtherBlocks(t *testing.T, im image.Image, want api.Errno) {
	t.Helper()
	for _, blocks := range otherBlocks() {
		im.Tasks[1].Blocks = blocks
		checkMiddle(t, im, want)
	}
}

// P12.1, R2: an image that is not right goes ahead of all errors of its tasks, and a task that is not there, too.
func TestErrorsOfTheImageGoAhead(t *testing.T) {
	var spoilt []image.Image
	for _, p := range append(stepPieces(), placePieces()...) {
		spoilt = append(spoilt, hosts(p.s)...)
	}
	for _, blocks := range otherBlocks() {
		im := host("", "", "")
		im.Tasks[1].Blocks = blocks
		spoilt = append(spoilt, im)
	}
	for _, im := range spoilt {
		im.Tasks[0], im.Tasks[2] = im.Tasks[1], im.Tasks[1]
		im.Tasks[0].Outs, im.Tasks[2].Outs = nil, nil
		for _, i := range []int{bottom, -1, 3, 4, top} {
			checkTask(t, im, i, api.ErrNone)
		}
		for _, change := range []func(im *image.Image){
			func(im *image.Image) { im.Switch = 101 },
			func(im *image.Image) { im.Safe = im.Safe[:4] },
			func(im *image.Image) { im.Tasks[0].Prio = 0 },
			func(im *image.Image) { im.Tasks[2].Jitter = -1 },
		} {
			wrong := deepCopy(im)
			change(&wrong)
			for _, i := range []int{-1, 0, 1, 2, 3} {
				checkTask(t, wrong, i, api.ErrTable)
			}
			checkAll(t, wrong, -1, api.ErrTable)
		}
	}
}

// P12.1, P12.3: as many steps as can be, and one more; it is Worst that counts, not Best.
func TestStepsAtTheLimit(t *testing.T) {
	for _, c := range []struct {
		s string
		e api.Errno
	}{
		{"LOOP 1000, LOOP 1000, NEXT, NEXT, LOOP 1000, " + many(45, "JUMP 0") + "NEXT, LOOP 572, NEXT, END", api.OK},
		{"LOOP 1000, LOOP 1000, NEXT, NEXT, LOOP 1000, " + many(45, "JUMP 0") + "NEXT, LOOP 573, NEXT, END", api.ErrBig},
		{"LOOP 1000, LOOP 1000, NEXT, NEXT, LOOP 1000, " + many(45, "JUMP 0") + "NEXT, LOOP 572, NEXT, JUMP 0, END", api.ErrBig},
		{around(0, "LOOP 1000, LOOP 1000, NEXT, NEXT, LOOP 1000, "+many(45, "JUMP 0")+"NEXT, LOOP 568, NEXT") + ", END", api.OK},
		{around(0, "LOOP 1000, LOOP 1000, NEXT, NEXT, LOOP 1000, "+many(45, "JUMP 0")+"NEXT, LOOP 569, NEXT") + ", END", api.ErrBig},
	} {
		im := alone(task(nil, nil, c.s))
		checkTask(t, im, 0, c.e)
		im.Switch, im.Latch, im.Commit = 100, 99, 98
		checkTask(t, im, 0, c.e)
		if n, e := Slots(im, 0); c.e == api.OK && (n != 100+99+limit+98+100 || e != api.OK) {
			t.Errorf("Slots of %s: %d, error %d", c.s, n, e)
		}
	}
}

// P12.1: all Blocks that there can be, against all locks: fewer, more, others, the same ones, and none.
func TestBlocksAgainstLocks(t *testing.T) {
	im := alone(image.Task{})
	im.Blocks = words(2, 1, 8, 3, 1, 4)
	for has := range 64 {
		for locks := range 64 {
			want := api.OK
			if has != locks {
				want = api.ErrLock
			}
			im.Tasks[0] = task(some(has), nil, within(some(locks), "JUMP 0")+", END")
			checkTask(t, im, 0, want)
		}
	}
}

// P12.1: all eight blocks, and one of them left out on either side.
func TestBlocksAgainstLocksOfAllEight(t *testing.T) {
	im := alone(image.Task{})
	im.Blocks = words(1, 2, 3, 4, 5, 6, 7, 8)
	for has := range 9 {
		for locks := range 9 {
			want := api.OK
			if has != locks {
				want = api.ErrLock
			}
			im.Tasks[0] = task(some(255&^(1<<has)), nil, within(some(255&^(1<<locks)), "JUMP 0")+", END")
			checkTask(t, im, 0, want)
		}
	}
}

// P12.1: Blocks are a task's own: what another one has counts for nothing.
func TestBlocksOfAnotherTask(t *testing.T) {
	im := plain()
	im.Tasks = []image.Task{
		task([]int{0}, nil, "LOCK 1, UNLOCK 1, END"),
		task([]int{1}, nil, "LOCK 0, UNLOCK 0, END"),
		task([]int{0, 1}, nil, "LOCK 0, LOCK 1, UNLOCK 1, UNLOCK 0, END"),
	}
	checkTask(t, im, 0, api.ErrLock)
	checkTask(t, im, 1, api.ErrLock)
	checkTask(t, im, 2, api.OK)
	checkAll(t, im, 0, api.ErrLock)
	im.Tasks[0].Blocks, im.Tasks[1].Blocks = im.Tasks[1].Blocks, im.Tasks[0].Blocks
	checkAll(t, im, -1, api.OK)
}

// P12.1: a lock that a run may leave out is one of the task's, too.
func TestLocksThatMayBeLeftOut(t *testing.T) {
	code := around(0, "LOCK 2, GET 2 7, DROP, UNLOCK 2") + ", END"
	checkTask(t, alone(task([]int{2}, nil, code)), 0, api.OK)
	checkTask(t, alone(task(nil, nil, code)), 0, api.ErrLock)
	code = "LOCK 1, " + around(0, "LOCK 2, UNLOCK 2") + ", UNLOCK 1, END"
	checkTask(t, alone(task([]int{1, 2}, nil, code)), 0, api.OK)
	checkTask(t, alone(task([]int{1}, nil, code)), 0, api.ErrLock)
	checkTask(t, alone(task([]int{2}, nil, code)), 0, api.ErrLock)
}

// R1: a nil list is an empty one.
func TestNilAndEmpty(t *testing.T) {
	im := alone(task(nil, nil, "END"))
	im.Blocks, im.Safe = nil, nil
	checkTask(t, im, 0, api.OK)
	im.Tasks[0].Blocks, im.Tasks[0].Outs, im.Blocks, im.Safe = []int{}, []int{}, [][]int{}, []int{}
	checkTask(t, im, 0, api.OK)
	checkAll(t, im, -1, api.OK)
	im.Tasks[0].Code = []api.Instr{}
	checkTask(t, im, 0, api.ErrTable)
	im.Tasks = []image.Task{}
	checkAll(t, im, -1, api.ErrTable)
}

// P12.1: each input, with each number of Inputs.
func TestInputs(t *testing.T) {
	for inputs := 0; inputs <= 16; inputs++ {
		for a := range 16 {
			want := api.OK
			if a >= inputs {
				want = api.ErrTable
			}
			im := alone(task(nil, nil, line("IN", a)+", END"))
			im.Inputs = inputs
			checkTask(t, im, 0, want)
		}
	}
}

// P12.1: a task that reads no inputs can be run with none.
func TestNoInputs(t *testing.T) {
	im := alone(task(nil, []int{5}, "PUSH 16, LOADL 7, LOADR 7, DROP, DROP, OUT 5, END"))
	im.Inputs = 0
	checkTask(t, im, 0, api.OK)
}

// P12.1: each output: one's own, another task's, and none's, with fewer outputs than 16 and with all.
func TestOutputs(t *testing.T) {
	for _, safe := range []int{1, 5, 16} {
		for shift := range 4 {
			var outs [3][]int
			for p := range safe {
				if k := (p + shift) % 4; k < 3 {
					outs[k] = append(outs[k], p)
				}
			}
			for i := range 3 {
				for a := range 16 {
					im := plain()
					im.Safe = make([]int, safe)
					for k := range im.Tasks {
						im.Tasks[k] = task(nil, outs[k], "END")
					}
					im.Tasks[i].Code = row("PUSH 1, " + line("OUT", a) + ", END")
					want := api.OK
					if !slices.Contains(outs[i], a) {
						want = api.ErrTable
					}
					checkTask(t, im, i, want)
				}
			}
		}
	}
}

// P12.1: a task need not write all of its outputs, and may write one often.
func TestOutputsThatAreNotWritten(t *testing.T) {
	checkTask(t, alone(task(nil, []int{0, 1, 2, 3, 4, 5}, "END")), 0, api.OK)
	checkTask(t, alone(task(nil, []int{0, 5}, "PUSH 1, OUT 5, PUSH 2, OUT 5, END")), 0, api.OK)
	checkTask(t, alone(task(nil, nil, "PUSH 1, OUT 0, END")), 0, api.ErrTable)
}

// P12.1: each word of blocks of all numbers of words, that stand at other places from time to time; each block alone, and in the locks of others.
func TestWordsOfBlocks(t *testing.T) {
	sizes := []int{1, 2, 3, 4, 5, 6, 7, 8}
	for turn := range 8 {
		turned := slices.Concat(sizes[turn:], sizes[:turn])
		for block, size := range turned {
			for b := range 8 {
				want := api.OK
				if b >= size {
					want = api.ErrTable
				}
				for _, locks := range [][]int{{block}, upTo(8), upTo(block + 1)} {
					for _, s := range []string{line("GET", block, b) + ", DROP", "PUSH 1, " + line("PUT", block, b)} {
						im := alone(task(locks, nil, within(locks, s)+", END"))
						im.Blocks = words(turned...)
						checkTask(t, im, 0, want)
					}
				}
			}
		}
	}
}

// atEach asks for a task whose row has 200 instructions, with a part at each place at which it may stand; what is ahead has a comma behind, or is empty.
func atEach(t *testing.T, im image.Image, ahead, part, behind string, want api.Errno) {
	t.Helper()
	room := 200 - count(ahead+part+", "+behind)
	for k := 0; k <= room; k++ {
		im.Tasks[1].Code = row(ahead + many(k, "JUMP 0") + part + ", " + many(room-k, "JUMP 0") + behind)
		if e := Task(im, 1); e != want || len(im.Tasks[1].Code) != 200 {
			t.Fatalf("behind %d others: error %d, not %d: %s", k, e, want, told(im, 1))
		}
	}
}

// P12.1: an In, an Out, a Get and a Put at each place of a row of 200 instructions at which it may stand, the first and the last one among them.
func TestEachPlaceOfTheRow(t *testing.T) {
	im := plain()
	im.Tasks[1].Blocks = nil
	atEach(t, im, "", "IN 5", "END", api.OK)
	atEach(t, im, "", "IN 6", "END", api.ErrTable)
	atEach(t, im, "PUSH 1, ", "OUT 5", "END", api.OK)
	atEach(t, im, "PUSH 1, ", "OUT 4", "END", api.ErrTable)
	im.Tasks[1].Blocks = []int{3}
	atEach(t, im, "LOCK 3, ", "GET 3 1", "UNLOCK 3, END", api.OK)
	atEach(t, im, "LOCK 3, ", "GET 3 2", "UNLOCK 3, END", api.ErrTable)
	atEach(t, im, "PUSH 1, LOCK 3, ", "PUT 3 1", "UNLOCK 3, END", api.OK)
	atEach(t, im, "PUSH 1, LOCK 3, ", "PUT 3 2", "UNLOCK 3, END", api.ErrTable)
}

// P12.1: one that is not there among many that are, at each place: none of them is left out.
func TestOneAmongMany(t *testing.T) {
	im := plain()
	right := []string{"IN 5, DROP", "PUSH 1, OUT 5", "GET 1 2, DROP", "PUSH 1, PUT 1 2", "GET 2 7, PUT 1 0", "IN 0, PUT 2 7"}
	wrong := []string{"IN 6, DROP", "PUSH 1, OUT 4", "GET 1 3, DROP", "PUSH 1, PUT 1 3", "GET 2 7, PUT 1 7", "IN 7, PUT 2 7"}
	for at := range 60 {
		for _, s := range wrong {
			var parts []string
			for k := range 60 {
				parts = append(parts, right[k%len(right)])
			}
			im.Tasks[1] = task([]int{1, 2}, []int{5}, within([]int{1, 2}, strings.Join(parts, ", "))+", END")
			if e := Task(im, 1); e != api.OK {
				t.Fatalf("error %d: %s", e, told(im, 1))
			}
			parts[at] = s
			im.Tasks[1] = task([]int{1, 2}, []int{5}, within([]int{1, 2}, strings.Join(parts, ", "))+", END")
			if e := Task(im, 1); e != api.ErrTable {
				t.Fatalf("error %d: %s", e, told(im, 1))
			}
		}
	}
}

// P12.1: what is not there is refused in a loop, and where no run comes by, too.
func TestPlacesThatNoRunReaches(t *testing.T) {
	never := "PUSH 1, PUSH 1, TWO 12, NOT, BRANCH "
	for _, c := range []struct {
		s string
		e api.Errno
	}{
		{"LOOP 3, IN 6, DROP, NEXT, END", api.ErrTable},
		{"LOOP 3, IN 5, DROP, NEXT, END", api.OK},
		{never + "2, IN 6, DROP, END", api.ErrTable},
		{never + "2, IN 5, DROP, END", api.OK},
		{never + "2, PUSH 1, OUT 1, END", api.ErrTable},
		{never + "2, PUSH 1, OUT 5, END", api.OK},
	} {
		checkTask(t, alone(task(nil, []int{5}, c.s)), 0, c.e)
	}
}

// P12.1: numbers of other instructions are no inputs, outputs or words, as great as they are.
func TestNumbersOfOtherInstructions(t *testing.T) {
	im := alone(task(nil, nil, many(2, "PUSH 15")+"TWO 12, BRANCH 6, "+many(6, "JUMP 0")+"LOADL 7, STOREL 7, LOADR 7, STORER 7, PUSH -1, LOOP 1000, NEXT, JUMP 0, END"))
	im.Inputs, im.Safe, im.Blocks = 0, nil, nil
	checkTask(t, im, 0, api.OK)
	im = alone(task([]int{7}, nil, "LOCK 7, GET 7 0, DROP, UNLOCK 7, END"))
	im.Inputs, im.Safe, im.Blocks = 0, nil, words(1, 1, 1, 1, 1, 1, 1, 1)
	checkTask(t, im, 0, api.OK)
}

// P12.2: no, one and several tasks of eight that can't be run, each with another error; the first one is told.
func TestAll(t *testing.T) {
	faults := []image.Task{
		task(nil, nil, "NEXT, END"),
		task(nil, nil, "JUMP 1, END"),
		task([]int{0}, nil, "END"),
		task(nil, nil, "IN 6, END"),
		task(nil, nil, "PUSH 1, CAST, END"),
		task(nil, nil, "DUP, END"),
		task(nil, nil, "LOOP 1000, LOOP 1000, LOOP 1000, NEXT, NEXT, NEXT, END"),
		task(nil, nil, "PUSH 1, OUT 1, END"),
	}
	errors := []api.Errno{api.ErrNest, api.ErrJump, api.ErrLock, api.ErrTable, api.ErrType, api.ErrStack, api.ErrBig, api.ErrTable}
	for tasks := 1; tasks <= 8; tasks++ {
		for mask := range 1 << tasks {
			for shift := range faults {
				im, at, want := plain(), -1, api.OK
				im.Tasks = nil
				for i := range tasks {
					k := (i + shift) % len(faults)
					if mask>>i&1 == 0 {
						im.Tasks = append(im.Tasks, task([]int{3}, nil, "LOCK 3, UNLOCK 3, END"))
						continue
					}
					im.Tasks = append(im.Tasks, faults[k])
					if at < 0 {
						at, want = i, errors[k]
					}
				}
				checkAll(t, im, at, want)
			}
		}
	}
}

// P12.3: the sum of the five parts, written out; none of the numbers is another one's.
func TestSlotsWrittenOut(t *testing.T) {
	im := plain()
	for i, want := range []int{5 + 17 + 9 + 31 + 5, 5 + 17 + 7 + 31 + 5, 5 + 17 + 19 + 31 + 5} {
		if n, e := Slots(im, i); n != want || e != api.OK {
			t.Errorf("task %d: %d, error %d, not %d", i, n, e, want)
		}
	}
	im = alone(task(nil, nil, "END"))
	im.Switch, im.Latch, im.Commit = 0, 1, 1
	if n, e := Slots(im, 0); n != 3 || e != api.OK {
		t.Errorf("the smallest one: %d, error %d", n, e)
	}
	im.Switch, im.Latch, im.Commit = 100, 100, 100
	if n, e := Slots(im, 0); n != 401 || e != api.OK {
		t.Errorf("the greatest parts: %d, error %d", n, e)
	}
}

// P12.3: Switch counts twice, each other part once, at their edges and between.
func TestSlotsAreASum(t *testing.T) {
	for _, change := range []int{0, 1, 2, 50, 99, 100} {
		for _, latch := range []int{1, 3, 64, 100} {
			for _, commit := range []int{1, 7, 32, 100} {
				for _, rounds := range []int{1, 13, 1000} {
					im := alone(task(nil, nil, line("LOOP", rounds)+", NEXT, END"))
					im.Switch, im.Latch, im.Commit = change, latch, commit
					if n, e := Slots(im, 0); n != change+latch+(rounds+2)+commit+change || e != api.OK {
						t.Errorf("%d, %d, %d and %d steps: %d, error %d", change, latch, commit, rounds+2, n, e)
					}
				}
			}
		}
	}
}

// P12.3: of a row with a choice the most steps count.
func TestSlotsOfTheWorst(t *testing.T) {
	for n := 1; n < 190; n++ {
		im := alone(task(nil, nil, around(0, strings.TrimSuffix(many(n, "JUMP 0"), ", "))+", END"))
		if got, e := Slots(im, 0); got != 5+17+(4+n+1)+31+5 || e != api.OK {
			t.Errorf("a part of %d, or none: %d, error %d", n, got, e)
		}
	}
}

// checkLocked asks for how long the blocks of the only task of an image are locked.
func checkLocked(t *testing.T, blocks []int, code string, want ...int) {
	t.Helper()
	im := alone(task(blocks, nil, code+", END"))
	im.Blocks = words(8, 8, 8, 8, 8, 8, 8, 8)
	checkTask(t, im, 0, api.OK)
	if l, e := Locked(im, 0); !slices.Equal(l, want) || e != api.OK {
		t.Errorf("%s: %v, error %d, not %v", code, l, e, want)
	}
}

// P12.4: no Block, one, and several in one another, in the order of the Blocks; written out.
func TestLockedWrittenOut(t *testing.T) {
	checkLocked(t, nil, "JUMP 0")
	checkLocked(t, []int{}, "LOOP 9, NEXT")
	for b := range 8 {
		checkLocked(t, []int{b}, within([]int{b}, "JUMP 0"), 2)
		checkLocked(t, []int{b}, "JUMP 0, "+line("LOCK", b)+", "+line("UNLOCK", b)+", JUMP 0", 1)
	}
	checkLocked(t, []int{1, 4}, "LOCK 1, LOCK 4, UNLOCK 4, UNLOCK 1", 3, 1)
	checkLocked(t, []int{1, 4}, "LOCK 1, JUMP 0, LOCK 4, JUMP 0, JUMP 0, UNLOCK 4, JUMP 0, UNLOCK 1", 7, 3)
	checkLocked(t, []int{0, 6}, "LOCK 0, GET 0 7, LOCK 6, PUT 6 7, LOOP 10, NEXT, UNLOCK 6, LOOP 20, JUMP 0, NEXT, UNLOCK 0", 57, 13)
	checkLocked(t, []int{2, 5, 7}, "LOOP 5, NEXT, LOCK 2, LOCK 5, JUMP 0, LOCK 7, UNLOCK 7, UNLOCK 5, JUMP 0, UNLOCK 2", 7, 4, 1)
	checkLocked(t, upTo(8), within(upTo(8), "JUMP 0"), 16, 14, 12, 10, 8, 6, 4, 2)
	checkLocked(t, []int{3}, "LOCK 3, LOOP 1000, LOOP 1000, NEXT, NEXT, UNLOCK 3", 1002002)
}

// P12.4: of a choice in a lock the most steps count, whatever the most steps of the whole row are.
func TestLockedOfTheWorst(t *testing.T) {
	checkLocked(t, []int{3}, within([]int{3}, around(0, "PUSH 1, DROP")), 7)
	checkLocked(t, []int{3}, around(0, within([]int{3}, "JUMP 0")), 2)
	checkLocked(t, []int{1, 3}, within([]int{1}, around(0, within([]int{3}, "JUMP 0, JUMP 0"))), 9, 3)
	checkLocked(t, []int{3}, "IN 0, PUSH 0, TWO 12, BRANCH 5, LOCK 3, GET 3 0, DROP, UNLOCK 3, JUMP 2, LOOP 900, NEXT", 3)
	checkLocked(t, []int{0, 7}, "LOCK 0, "+around(1, "LOOP 30, NEXT")+", "+within([]int{7}, around(2, "LOOP 40, NEXT"))+", UNLOCK 0", 4+31+1+4+41+1+1, 4+41+1)
}

// P12.4: all Blocks that there can be, with some steps between one lock and the next one.
func TestLockedOfAllBlocks(t *testing.T) {
	for mask := range 256 {
		blocks := some(mask)
		code, want := "JUMP 0", make([]int, len(blocks))
		for k, b := range slices.Backward(blocks) {
			pad := many(b+1, "JUMP 0")
			code = pad + line("LOCK", b) + ", " + code + ", " + line("UNLOCK", b)
			want[k] = 2
			if k+1 < len(blocks) {
				want[k] = blocks[k+1] + 1 + 1 + want[k+1] + 1
			}
		}
		checkLocked(t, blocks, code, want...)
	}
}

// maker makes tasks that can be run, of an image whose tables are made already; each choice asks an input of its own.
type maker struct {
	r       *rand.Rand
	im      *image.Image
	outs    []int
	held    []int
	choices int
	wrote   []int
}

// piece is a few instructions that leave the stack as it was.
func (m *maker) piece() string {
	switch m.r.Intn(6) {
	case 0:
		return line("IN", m.r.Intn(m.im.Inputs)) + ", DROP"
	case 1:
		if b := m.held; len(b) > 0 {
			at := b[m.r.Intn(len(b))]
			return line("GET", at, m.r.Intn(len(m.im.Blocks[at]))) + ", DROP"
		}
	case 2, 3:
		if b := m.held; len(b) > 0 {
			at := b[m.r.Intn(len(b))]
			return line("PUSH", 1+m.r.Intn(99)) + ", " + line("PUT", at, m.r.Intn(len(m.im.Blocks[at])))
		}
	case 4:
		if len(m.outs) > 0 {
			p := m.outs[m.r.Intn(len(m.outs))]
			m.wrote = append(m.wrote, p)
			return line("IN", m.r.Intn(m.im.Inputs)) + ", " + line("OUT", p)
		}
	}
	return "JUMP 0"
}

// part is a few pieces, with loops and choices in one another.
func (m *maker) part(deep int) string {
	parts := []string{m.piece()}
	for range m.r.Intn(4) {
		switch kind := m.r.Intn(6); {
		case deep > 0 && kind == 0:
			parts = append(parts, line("LOOP", 1+m.r.Intn(4))+", "+m.part(deep-1)+", NEXT")
		case deep > 0 && kind == 1 && m.may():
			input := m.choice()
			parts = append(parts, around(input, m.part(deep-1)))
		default:
			parts = append(parts, m.piece())
		}
	}
	return strings.Join(parts, ", ")
}

func (m *maker) may() bool { return m.choices < min(4, m.im.Inputs) }

// choice is the input of a new one.
func (m *maker) choice() int {
	m.choices++
	return m.choices - 1
}

// locked is a part in locks of blocks from that on, in one another, and the blocks; some may be left out.
func (m *maker) locked(from int) (string, []int) {
	if from >= len(m.im.Blocks) || m.r.Intn(4) == 0 {
		return m.part(2), nil
	}
	block, ahead := from+m.r.Intn(len(m.im.Blocks)-from), m.part(1)
	m.held = append(m.held, block)
	inner, blocks := m.locked(block + 1)
	s := line("LOCK", block) + ", " + inner + ", " + line("UNLOCK", block)
	m.held = m.held[:len(m.held)-1]
	if m.r.Intn(3) == 0 && m.may() {
		s = around(m.choice(), s)
	}
	return ahead + ", " + s + ", " + m.part(1), append([]int{block}, blocks...)
}

// someTask is a task that can be run, and what is made of it.
func someTask(r *rand.Rand, im *image.Image, outs []int) (image.Task, *maker) {
	for {
		m := &maker{r: r, im: im, outs: outs}
		s, blocks := m.locked(0)
		s = m.part(2) + ", " + s + ", END"
		if count(s) > 200 {
			continue
		}
		t := task(blocks, outs, s)
		if n, e := cost.Worst(t.Code); e == api.OK && n < 3000 {
			return t, m
		}
	}
}

// someImage is an image whose tasks can be run, and what is made of each.
func someImage(r *rand.Rand) (image.Image, []*maker) {
	im := image.Image{Switch: r.Intn(101), Latch: 1 + r.Intn(100), Commit: 1 + r.Intn(100), Inputs: 1 + r.Intn(16), Safe: make([]int, r.Intn(17))}
	for range r.Intn(9) {
		im.Blocks = append(im.Blocks, make([]int, 1+r.Intn(8)))
	}
	outs := make([][]int, 1+r.Intn(4))
	for p := range im.Safe {
		if k := r.Intn(len(outs) + 1); k < len(outs) {
			outs[k] = append(outs[k], p)
		}
	}
	var made []*maker
	for _, l := range outs {
		t, m := someTask(r, &im, l)
		im.Tasks, made = append(im.Tasks, t), append(made, m)
	}
	return im, made
}

// seen is what was seen of the runs of a task.
type seen struct {
	locked, written map[int]bool
	steps           int
	lens            map[int]int
}

// watch runs a task with all choices of its inputs, on blocks with numbers in all words, and asks at each step for what may be done.
func watch(t *testing.T, im image.Image, i, choices int) seen {
	t.Helper()
	own := im.Tasks[i]
	m, e := vm.New(own.Code)
	if e != api.OK {
		t.Fatalf("error %d: %s", e, told(im, i))
	}
	s := seen{locked: map[int]bool{}, written: map[int]bool{}, lens: map[int]int{}}
	for chosen := range 1 << choices {
		var in [16]int
		for k := range choices {
			in[k] = chosen >> k & 1
		}
		for k := choices; k < im.Inputs; k++ {
			in[k] = 100 + k
		}
		mem, steps, since := &vm.Memory{}, 0, map[int]int{}
		m.Start(in)
		for m.Running() {
			held, before := m.Held(), mem.Blocks
			event, e := m.Step(mem)
			if e != api.OK {
				t.Fatalf("error %d: %s", e, told(im, i))
			}
			steps++
			switch event.Kind {
			case vm.Locked:
				s.locked[event.Block], since[event.Block] = true, steps
			case vm.Freed:
				s.lens[event.Block] = max(s.lens[event.Block], steps-since[event.Block])
			}
			checkHeld(t, im, i, held|m.Held())
			checkWords(t, im, before, mem.Blocks, held)
		}
		s.steps = max(s.steps, steps)
		for _, o := range m.Outs() {
			s.written[o.Port] = true
		}
	}
	return s
}

// checkHeld asks whether blocks that are held are the task's.
func checkHeld(t *testing.T, im image.Image, i, held int) {
	t.Helper()
	for _, b := range some(held) {
		if !slices.Contains(im.Tasks[i].Blocks, b) {
			t.Fatalf("block %d is locked: %s", b, told(im, i))
		}
	}
}

// checkWords asks whether words that were changed are there, in a block that is held.
func checkWords(t *testing.T, im image.Image, before, after [8][8]int, held int) {
	t.Helper()
	for b := range 8 {
		for w := range 8 {
			if before[b][w] != after[b][w] && (held>>b&1 == 0 || w >= len(im.Blocks[b])) {
				t.Fatalf("word %d of block %d was changed; blocks %v, held %d", w, b, im.Blocks, held)
			}
		}
	}
}

// same tells whether a set is just a list's numbers.
func same(set map[int]bool, l []int) bool {
	for _, n := range l {
		if !set[n] {
			return false
		}
	}
	return len(set) == len(slices.Compact(slices.Sorted(slices.Values(l))))
}

// P12.5, P12.3, P12.4: tasks that can be run, run with all choices: what is locked is just their Blocks, what is written just their outputs, and no run takes more slots, or locks longer, than is answered; one takes just that.
func TestRunsOfTasksThatCanBeRun(t *testing.T) {
	r := rand.New(rand.NewSource(12))
	locked, left, unwritten := map[int]int{}, 0, 0
	for range 700 {
		im, made := someImage(r)
		checkAll(t, im, -1, api.OK)
		for i, own := range im.Tasks {
			checkTask(t, im, i, api.OK)
			s := watch(t, im, i, made[i].choices)
			if !same(s.locked, own.Blocks) {
				t.Errorf("locked is %v: %s", s.locked, told(im, i))
			}
			if !same(s.written, made[i].wrote) {
				t.Errorf("written is %v: %s", s.written, told(im, i))
			}
			for p := range s.written {
				if !slices.Contains(own.Outs, p) {
					t.Errorf("output %d is written: %s", p, told(im, i))
				}
			}
			slots, _ := Slots(im, i)
			if slots != im.Switch+im.Latch+s.steps+im.Commit+im.Switch {
				t.Errorf("%d slots, of runs that take up to %d steps: %s", slots, s.steps, told(im, i))
			}
			lens, _ := Locked(im, i)
			for k, b := range own.Blocks {
				if lens[k] != s.lens[b] {
					t.Errorf("block %d is locked for up to %d; answered is %v: %s", b, s.lens[b], lens, told(im, i))
				}
			}
			locked[len(own.Blocks)]++
			if len(s.written) < len(own.Outs) {
				unwritten++
			}
			if best, _ := cost.Best(own.Code); best < s.steps {
				left++
			}
		}
	}
	if locked[0] < 50 || locked[1] < 50 || locked[2] < 50 || locked[3] < 20 || left < 100 || unwritten < 20 {
		t.Errorf("too few of one kind: %v, %d, %d", locked, left, unwritten)
	}
}

// spoil changes an image at one place or more; what comes of it may be right, or not, and its tasks may be such that can be run, or not.
func spoil(r *rand.Rand, im *image.Image) {
	for range 1 + r.Intn(3) {
		t := &im.Tasks[r.Intn(len(im.Tasks))]
		at := r.Intn(len(t.Code))
		switch r.Intn(9) {
		case 0:
			im.Inputs = r.Intn(im.Inputs + 1)
		case 1:
			if n := len(im.Blocks); n > 0 {
				k := r.Intn(n)
				im.Blocks[k] = im.Blocks[k][:min(len(im.Blocks[k]), 1+r.Intn(8))]
			}
		case 2:
			if n := len(t.Outs); n > 0 {
				k := r.Intn(n)
				t.Outs = slices.Delete(t.Outs, k, k+1)
			}
		case 3:
			if n := len(t.Blocks); n > 0 {
				k := r.Intn(n)
				t.Blocks = slices.Delete(t.Blocks, k, k+1)
			}
		case 4:
			t.Blocks = append(t.Blocks, r.Intn(8))
		case 5:
			t.Code[at].A += r.Intn(3) - 1
		case 6:
			t.Code[at] = api.Instr{Op: 1 + r.Intn(25), A: r.Intn(3) * r.Intn(8)}
		case 7:
			t.Code = slices.Delete(t.Code, at, at+1)
		case 8:
			t.Code = slices.Insert(t.Code, at, row([]string{"LOOP 1000, LOOP 1000, LOOP 9, NEXT, NEXT, NEXT", "IN 15, DROP", "PUSH 1, OUT 9", "DUP", "JUMP 9", "PUSH 0, CAST, DROP", "GET 0 1, DROP"}[r.Intn(7)])...)
		}
	}
}

// P12.1 to P12.4: images that are near to such whose tasks can be run, against the chapter's words written again; all errors are among them.
func TestImagesNearToSuch(t *testing.T) {
	r, told := rand.New(rand.NewSource(121)), map[api.Errno]int{}
	for range 1500 {
		whole, _ := someImage(r)
		for range 4 {
			im := deepCopy(whole)
			spoil(r, &im)
			at, first := -1, api.OK
			for i := -1; i <= len(im.Tasks); i++ {
				want := wantTask(im, i)
				checkTask(t, im, i, want)
				told[want]++
				if want != api.OK && want != api.ErrNone && first == api.OK {
					at, first = i, want
				}
			}
			if !image.Right(im) {
				at = -1
			}
			checkAll(t, im, at, first)
		}
	}
	for _, e := range []api.Errno{api.OK, api.ErrNone, api.ErrNest, api.ErrJump, api.ErrLock, api.ErrType, api.ErrStack, api.ErrBig, api.ErrTable} {
		if told[e] < 100 {
			t.Errorf("error %d came too seldom: %v", e, told)
		}
	}
}

// P12.5: a task that can be run locks its Blocks in order, and none twice: they are what its image tells; so with what its code writes.
func TestCodeOfTasksThatCanBeRun(t *testing.T) {
	r, runs := rand.New(rand.NewSource(1212)), 0
	for range 3000 {
		im, _ := someImage(r)
		if r.Intn(2) == 0 {
			spoil(r, &im)
		}
		for i, own := range im.Tasks {
			if Task(im, i) != api.OK {
				continue
			}
			runs++
			var locks []int
			for _, x := range own.Code {
				if x.Op == op.Lock {
					locks = append(locks, x.A)
				}
				if x.Op == op.Out && !slices.Contains(own.Outs, x.A) {
					t.Errorf("output %d: %s", x.A, told(im, i))
				}
			}
			if !slices.Equal(locks, own.Blocks) {
				t.Errorf("locks %v: %s", locks, told(im, i))
			}
		}
	}
	if runs < 1500 {
		t.Errorf("just %d tasks can be run", runs)
	}
}

// R1: whatever is handed in, all calls end; lists that are far too long are of images that are not right.
func TestAnyArgumentEnds(t *testing.T) {
	long := plain()
	long.Tasks = slices.Repeat(long.Tasks, 1<<16)
	checkAll(t, long, -1, api.ErrTable)
	checkTask(t, long, 1<<16, api.ErrTable)
	rows := plain()
	rows.Tasks[1].Code = slices.Repeat(row("LOOP 1000"), 1<<18)
	checkAll(t, rows, -1, api.ErrTable)
	for _, n := range []int{bottom, -1, 8, 16, 99, top} {
		im := plain()
		im.Tasks[0].Code[2] = api.Instr{Op: op.Get, A: n, B: n}
		im.Tasks[1].Code[0] = api.Instr{Op: op.In, A: n + 1}
		im.Tasks[2].Blocks = []int{n}
		for i := range 3 {
			checkTask(t, im, i, api.ErrTable)
		}
	}
}

const markNumber = -777

func roomy(l []int) []int {
	return append(append(make([]int, 0, len(l)+3), l...), markNumber, markNumber, markNumber)[:len(l)]
}

// withRoom is an image's copy whose lists all have room behind, with something in it.
func withRoom(im image.Image) image.Image {
	im = deepCopy(im)
	im.Safe = roomy(im.Safe)
	for i := range im.Blocks {
		im.Blocks[i] = roomy(im.Blocks[i])
	}
	im.Blocks = append(append(make([][]int, 0, len(im.Blocks)+2), im.Blocks...), []int{1}, []int{2})[:len(im.Blocks)]
	for i := range im.Tasks {
		t := &im.Tasks[i]
		t.Blocks, t.Outs = roomy(t.Blocks), roomy(t.Outs)
		behind := api.Instr{Op: op.In, A: markNumber}
		t.Code = append(append(make([]api.Instr, 0, len(t.Code)+2), t.Code...), behind, behind)[:len(t.Code)]
	}
	im.Tasks = append(append(make([]image.Task, 0, len(im.Tasks)+1), im.Tasks...), image.Task{Prio: markNumber, Blocks: []int{3}})[:len(im.Tasks)]
	return im
}

// withAllRoom is an image with the room behind its lists as if it were theirs.
func withAllRoom(im image.Image) image.Image {
	all := func(l []int) []int { return l[:cap(l)] }
	im.Safe = all(im.Safe)
	im.Blocks = slices.Clone(im.Blocks[:cap(im.Blocks)])
	for i := range im.Blocks {
		im.Blocks[i] = all(im.Blocks[i])
	}
	im.Tasks = slices.Clone(im.Tasks[:cap(im.Tasks)])
	for i := range im.Tasks {
		t := &im.Tasks[i]
		t.Blocks, t.Outs, t.Code = all(t.Blocks), all(t.Outs), t.Code[:cap(t.Code)]
	}
	return im
}

// R4: images that are handed in are not changed, nor the room behind their lists, with whatever error.
func TestImagesHandedInAreNotChanged(t *testing.T) {
	images := append(wrongOnes(), plain())
	for _, p := range append(stepPieces(), placePieces()...) {
		images = append(images, hosts(p.s)...)
	}
	for _, blocks := range otherBlocks() {
		im := plain()
		im.Tasks[0].Blocks = blocks
		images = append(images, im)
	}
	for _, im := range images {
		im = withRoom(im)
		before := deepCopy(withAllRoom(im))
		for i := -1; i <= len(im.Tasks); i++ {
			Task(im, i)
			Slots(im, i)
			if l, _ := Locked(im, i); len(l) > 0 {
				for k := range l[:cap(l)] {
					l[:cap(l)][k] = 99
				}
			}
		}
		All(im)
		if !image.Same(withAllRoom(im), before) {
			t.Fatalf("changed: %v", im)
		}
	}
}

// R4, R5: images that are handed in are not kept: what they become later changes no answer that was told, and is seen by the next call.
func TestImagesHandedInAreNotKept(t *testing.T) {
	im := withRoom(plain())
	slots, _ := Slots(im, 0)
	lens, _ := Locked(im, 0)
	checkAll(t, im, -1, api.OK)
	im.Blocks[3] = im.Blocks[3][:1]
	checkTask(t, im, 0, api.ErrTable)
	checkAll(t, im, 0, api.ErrTable)
	im.Blocks[3] = make([]int, 2)
	copy(im.Tasks[0].Code, row("LOCK 1, LOCK 3, JUMP 0, JUMP 0, UNLOCK 3, UNLOCK 1, IN 6, DROP, END"))
	checkTask(t, im, 0, api.ErrTable)
	copy(im.Tasks[0].Code, row("LOCK 1, LOCK 3, UNLOCK 3, LOOP 20, NEXT, UNLOCK 1, JUMP 0, JUMP 0, END"))
	checkTask(t, im, 0, api.OK)
	im.Tasks[0].Blocks[0] = 0
	checkTask(t, im, 0, api.ErrLock)
	clear(im.Tasks[0].Code)
	checkTask(t, im, 0, api.ErrTable)
	checkTask(t, im, 2, api.ErrTable)
	if slots != 67 || !slices.Equal(lens, []int{5, 3}) {
		t.Errorf("answers became %d, %v", slots, lens)
	}
	checkTask(t, plain(), 0, api.OK)
}

// R4: answers are new memory, spare room too: what is done with one changes neither another one nor the image.
func TestAnswersAreNewMemory(t *testing.T) {
	im := plain()
	im.Blocks = words(1, 1, 1, 1, 1, 1, 1, 1)
	im.Tasks = []image.Task{task(upTo(8), nil, within(upTo(8), "JUMP 0")+", END"), task([]int{2, 4}, nil, within([]int{2, 4}, "JUMP 0")+", END")}
	want := [][]int{{16, 14, 12, 10, 8, 6, 4, 2}, {4, 2}}
	var answers [][]int
	for k := range 6 {
		l, e := Locked(im, k%2)
		if !slices.Equal(l, want[k%2]) || e != api.OK {
			t.Fatalf("%v, error %d", l, e)
		}
		answers = append(answers, l)
	}
	before := deepCopy(im)
	for k, l := range answers {
		for at := range l[:cap(l)] {
			l[:cap(l)][at] = 99
		}
		for later := k + 1; later < len(answers); later++ {
			if !slices.Equal(answers[later], want[later%2]) {
				t.Fatalf("answer %d was changed with answer %d: %v", later, k, answers[later])
			}
		}
	}
	if !image.Same(im, before) {
		t.Errorf("the image was changed with an answer: %v", im)
	}
	checkTask(t, im, 0, api.OK)
	checkTask(t, im, 1, api.OK)
}

// R5: the same is answered again, whatever is asked between.
func TestOneAnswer(t *testing.T) {
	for range 3 {
		checkAll(t, plain(), -1, api.OK)
		checkAll(t, image.Image{}, -1, api.ErrTable)
		checkTask(t, plain(), 0, api.OK)
		checkTask(t, host("DROP, ", "", ""), 1, api.ErrStack)
		checkTask(t, plain(), 2, api.OK)
		checkTask(t, plain(), 3, api.ErrNone)
		checkTask(t, plain(), 0, api.OK)
	}
}
