package vm

import (
	"maps"
	"math/rand"
	"slices"
	"strings"
	"testing"

	"camshaft/api"
	"camshaft/nest"
	"camshaft/num"
	"camshaft/op"
	"camshaft/text"
	"camshaft/types"
)

const (
	top    = 1<<63 - 1
	bottom = -1 << 63
)

// row is the instructions whose lines, with a comma between, s is.
func row(s string) []api.Instr {
	l, e := text.Parse(strings.ReplaceAll(s, ", ", "\n") + "\n")
	if e != api.OK {
		panic(s)
	}
	return l
}

// show is a row in few letters, of one that is not right too.
func show(l []api.Instr) string {
	s := ""
	for _, i := range l {
		if line := text.Line(i); line != "" {
			s += line[:len(line)-1] + ", "
		} else {
			s += "none, "
		}
	}
	return strings.TrimSuffix(s, ", ")
}

// many is a piece of a row's text so many times, each with a comma behind.
func many(n int, s string) string { return strings.Repeat(s+", ", n) }

// The truths, as instructions that lay them on the stack.
const (
	yes = "PUSH 1, PUSH 1, TWO 12"
	no  = "PUSH 1, PUSH 2, TWO 12"
)

// truthOf is instructions that lay that truth on the stack.
func truthOf(v int) string {
	return []string{no, yes}[v]
}

// fresh is a machine that New gives.
func fresh(t *testing.T, s string) *Machine {
	t.Helper()
	return freshOf(t, row(s))
}

func freshOf(t *testing.T, l []api.Instr) *Machine {
	t.Helper()
	m, e := New(l)
	if e != api.OK || m == nil {
		t.Fatalf("New(%s) = %v, %d", show(l), m, e)
	}
	return m
}

// began is a machine of which a run with these inputs has begun.
func began(t *testing.T, s string, in ...int) *Machine {
	t.Helper()
	m := fresh(t, s)
	start(t, m, in...)
	return m
}

func start(t *testing.T, m *Machine, in ...int) {
	t.Helper()
	if e := m.Start(inputs(in...)); e != api.OK {
		t.Fatalf("Start: %d", e)
	}
}

func inputs(in ...int) (all [16]int) {
	copy(all[:], in)
	return all
}

// steps goes on so often, and asks for no error.
func steps(t *testing.T, m *Machine, mem *Memory, n int) {
	t.Helper()
	for k := range n {
		if x, e := m.Step(mem); e != api.OK {
			t.Fatalf("step %d of %d: %v, %d", k+1, n, x, e)
		}
	}
}

// finish steps to the end, and tells how many steps that took.
func finish(t *testing.T, m *Machine, mem *Memory) int {
	t.Helper()
	for n := 1; ; n++ {
		x, e := m.Step(mem)
		if e != api.OK || n > 5000000 {
			t.Fatalf("step %d: %v, %d", n, x, e)
		}
		if x.Kind == Ended {
			return n
		}
	}
}

// wholeRun is a run from its beginning to its end.
func wholeRun(t *testing.T, m *Machine, mem *Memory, in ...int) int {
	t.Helper()
	start(t, m, in...)
	return finish(t, m, mem)
}

// view is all that a machine tells.
type view struct {
	running       bool
	at            int
	stack         []int
	outs          []Out
	retained      [8]int
	held          int
	faults, steps int
}

func viewOf(m *Machine) view {
	return view{m.Running(), m.At(), m.Stack(), m.Outs(), m.Retained(), m.Held(), m.Faults(), m.Steps()}
}

func (v view) same(w view) bool {
	return v.running == w.running && v.at == w.at && slices.Equal(v.stack, w.stack) && slices.Equal(v.outs, w.outs) &&
		v.retained == w.retained && v.held == w.held && v.faults == w.faults && v.steps == w.steps
}

func checkView(t *testing.T, m *Machine, want view) {
	t.Helper()
	if got := viewOf(m); !got.same(want) {
		t.Errorf("the machine tells %+v; want %+v", got, want)
	}
}

// model is the chapter's words of a machine again, with loops found by their places and locks by a set.
type model struct {
	row            []api.Instr
	match          []int
	running        bool
	place          int
	stack          []int
	locals, stays  map[int]int
	in             [16]int
	outs, rounds   map[int]int
	locked         map[int]bool
	faults, passed int
}

func modelOf(l []api.Instr) *model {
	match, _ := nest.Match(l)
	return &model{row: l, match: match, stays: map[int]int{}}
}

func (o *model) start(in [16]int) {
	o.running, o.place, o.stack, o.in = true, 0, nil, in
	o.locals, o.outs, o.rounds, o.locked = map[int]int{}, map[int]int{}, map[int]int{}, map[int]bool{}
	o.faults, o.passed = 0, 0
}

// nth is the value that stands so far below the top, 0 being the upper one.
func (o *model) nth(below int) int { return o.stack[len(o.stack)-1-below] }

// instead puts values instead of so many upper ones.
func (o *model) instead(of int, v ...int) {
	o.stack = append(slices.Clone(o.stack[:len(o.stack)-of]), v...)
}

// step is P8.2.
func (o *model) step(mem *Memory) Event {
	p, event := o.place, Event{}
	i := o.row[p]
	o.passed++
	o.place = p + 1
	switch op.Name(i.Op) {
	case "LOADL":
		o.instead(0, o.locals[i.A])
	case "LOADR":
		o.instead(0, o.stays[i.A])
	case "IN":
		o.instead(0, o.in[i.A])
	case "GET":
		o.instead(0, mem.Blocks[i.A][i.B])
	case "STOREL":
		o.locals[i.A] = o.nth(0)
		o.instead(1)
	case "STORER":
		o.stays[i.A] = o.nth(0)
		o.instead(1)
	case "OUT":
		o.outs[i.A] = o.nth(0)
		o.instead(1)
	case "PUT":
		mem.Blocks[i.A][i.B] = o.nth(0)
		o.instead(1)
	case "JUMP":
		o.place = p + 1 + i.A
	case "BRANCH":
		if o.nth(0) == 0 {
			o.place = p + 1 + i.A
		}
		o.instead(1)
	case "LOOP":
		o.rounds[p] = i.A
	case "NEXT":
		o.rounds[o.match[p]]--
		if o.rounds[o.match[p]] != 0 {
			o.place = o.match[p] + 1
		}
	case "LOCK":
		o.locked[i.A] = true
		event = Event{Kind: 1, Block: i.A}
	case "UNLOCK":
		delete(o.locked, i.A)
		event = Event{Kind: 2, Block: i.A}
	case "END":
		o.running = false
		event = Event{Kind: 3}
	default:
		o.reckon(i)
	}
	return event
}

// reckon is P8.2 of what changes the stack alone.
func (o *model) reckon(i api.Instr) {
	switch op.Name(i.Op) {
	case "PUSH":
		o.instead(0, i.A)
	case "DROP":
		o.instead(1)
	case "DUP":
		o.instead(1, o.nth(0), o.nth(0))
	case "SWAP":
		o.instead(2, o.nth(0), o.nth(1))
	case "TWO":
		v, fault := num.Two(i.A, o.nth(1), o.nth(0))
		if fault {
			o.faults++
		}
		o.instead(2, v)
	case "NEG":
		o.instead(1, 0-o.nth(0))
	case "NOT":
		o.instead(1, 1-o.nth(0))
	case "BOTH":
		o.instead(2, o.nth(0)*o.nth(1))
	case "EITHER":
		o.instead(2, max(o.nth(0), o.nth(1)))
	}
}

// view is P8.3.
func (o *model) view() view {
	v := view{running: o.running, at: -1, stack: o.stack, faults: o.faults, steps: o.passed}
	if o.running {
		v.at = o.place
	}
	for _, port := range slices.Sorted(maps.Keys(o.outs)) {
		v.outs = append(v.outs, Out{Port: port, V: o.outs[port]})
	}
	for a, n := range o.stays {
		v.retained[a] = n
	}
	for a := range o.locked {
		v.held += 1 << a
	}
	return v
}

// follow holds a run of a machine against the model, step by step; it tells how many steps there were.
func follow(t *testing.T, m *Machine, o *model, in [16]int, mem *Memory) int {
	t.Helper()
	other := *mem
	if e := m.Start(in); e != api.OK {
		t.Fatalf("%s: Start: %d", show(o.row), e)
	}
	o.start(in)
	for {
		if got, want := viewOf(m), o.view(); !got.same(want) {
			t.Fatalf("%s: %+v; want %+v", show(o.row), got, want)
		}
		if !o.running {
			return o.passed
		}
		at := o.place
		want := o.step(&other)
		if got, e := m.Step(mem); got != want || e != api.OK {
			t.Fatalf("%s: at %d the step is %v, %d; want %v", show(o.row), at, got, e, want)
		}
		if *mem != other {
			t.Fatalf("%s: behind the step at %d the blocks are %v; want %v", show(o.row), at, *mem, other)
		}
		if o.passed > 5000000 {
			t.Fatalf("%s: no end", show(o.row))
		}
	}
}

// followRow follows a few runs of one machine, with other inputs each and the blocks of the one before.
func followRow(t *testing.T, l []api.Instr, r *rand.Rand) int {
	t.Helper()
	m, o, mem, n := freshOf(t, l), modelOf(l), someMemory(r), 0
	for range 3 {
		n += follow(t, m, o, someInputs(r), mem)
	}
	return n
}

func someNumber(r *rand.Rand) int {
	few := []int{0, 0, 1, -1, 2, 7, 63, 64, bottom, top}
	if r.Intn(4) == 0 {
		return int(r.Uint64())
	}
	return few[r.Intn(len(few))]
}

func someInputs(r *rand.Rand) (in [16]int) {
	for p := range in {
		in[p] = someNumber(r)
	}
	return in
}

func someMemory(r *rand.Rand) *Memory {
	mem := &Memory{}
	for a := range mem.Blocks {
		for b := range mem.Blocks[a] {
			mem.Blocks[a][b] = someNumber(r)
		}
	}
	return mem
}

// spot is where a machine stands, and with what on the stack, behind a step that told that event.
type spot struct {
	at    int
	stack string
	event Event
}

// checkSpots asks for where a run of a row stands behind each of its steps; all of it is written out.
func checkSpots(t *testing.T, s string, in []int, want ...spot) {
	t.Helper()
	m, mem := began(t, s, in...), &Memory{}
	checkView(t, m, view{running: true})
	for k, w := range want {
		x, e := m.Step(mem)
		if got := (spot{m.At(), numbers(m.Stack()), x}); got != w || e != api.OK || m.Steps() != k+1 {
			t.Fatalf("%s: behind step %d: %v, %d, %d steps; want %v", s, k+1, got, e, m.Steps(), w)
		}
	}
	if m.Running() {
		t.Errorf("%s: it runs still, at %d", s, m.At())
	}
	follow(t, fresh(t, s), modelOf(row(s)), inputs(in...), &Memory{})
}

// numbers is numbers with a blank between.
func numbers(l []int) string {
	s := ""
	for _, n := range l {
		s += " " + text.Line(api.Instr{Op: op.Push, A: n})[len("PUSH "):]
	}
	return strings.TrimPrefix(strings.ReplaceAll(s, "\n", ""), " ")
}

// checkOuts asks for all outputs, as ports and numbers one behind the other.
func checkOuts(t *testing.T, m *Machine, want ...int) {
	t.Helper()
	var got []int
	for _, o := range m.Outs() {
		got = append(got, o.Port, o.V)
	}
	if !slices.Equal(got, want) {
		t.Errorf("the outputs are %v; want %v", got, want)
	}
}

// checkCounts asks for the faults and steps.
func checkCounts(t *testing.T, m *Machine, faults, steps int) {
	t.Helper()
	if m.Faults() != faults || m.Steps() != steps {
		t.Errorf("%d faults, %d steps; want %d, %d", m.Faults(), m.Steps(), faults, steps)
	}
}

var ended = spot{-1, "", Event{Kind: Ended}}

// P8.2: the events are numbered one behind the other.
func TestEventNumbers(t *testing.T) {
	if Plain != 0 || Locked != 1 || Freed != 2 || Ended != 3 {
		t.Error(Plain, Locked, Freed, Ended)
	}
}

// P8.2: the chapter's example, and that the task goes on behind the fault.
func TestExample(t *testing.T) {
	m := fresh(t, "IN 0, PUSH 0, TWO 4, OUT 1, END")
	for _, a := range []int{7, 0, -1, top, bottom} {
		if n := wholeRun(t, m, &Memory{}, a); n != 5 {
			t.Errorf("%d steps", n)
		}
		checkOuts(t, m, 1, 0)
		checkCounts(t, m, 1, 5)
	}
}

// P8.1: a machine that New gives does not run, and has nothing yet.
func TestNew(t *testing.T) {
	for _, s := range []string{"END", "PUSH 1, END", "LOCK 1, GET 1 1, OUT 3, UNLOCK 1, END", "LOOP 1000, NEXT, END"} {
		checkView(t, fresh(t, s), view{at: -1})
	}
	long := row(many(199, "JUMP 0") + "END")
	if n := wholeRun(t, freshOf(t, long), &Memory{}); n != 200 {
		t.Errorf("%d steps of 200 instructions", n)
	}
}

// checkRefused asks New for an error, and for no machine beside it.
func checkRefused(t *testing.T, l []api.Instr, want api.Errno) {
	t.Helper()
	if m, e := New(l); m != nil || e != want {
		t.Errorf("New(%s) = %v, %d; want %d", show(l), m, e, want)
	}
}

// P8.1, R3: rows that nest.Locks refuses, with each of its errors.
func TestNewOfWhatLocksRefuses(t *testing.T) {
	for _, l := range [][]api.Instr{nil, {}, append(row(many(199, "JUMP 0")+"JUMP 0"), api.Instr{Op: op.End}), {{}}, {{Op: op.Two, A: 13}, {Op: op.End}}, {{Op: op.End, A: 1}}} {
		checkRefused(t, l, api.ErrArg)
	}
	for _, s := range []string{"PUSH 1", "NEXT, END", "LOOP 2, END", "LOCK 1, UNLOCK 2, END", "END, END", "LOCK 1, LOOP 2, UNLOCK 1, NEXT, END"} {
		checkRefused(t, row(s), api.ErrNest)
	}
	for _, s := range []string{"JUMP 1, END", "JUMP 199, END", yes + ", BRANCH 1, END", "JUMP 1, LOOP 2, NEXT, END", "LOOP 2, JUMP 1, NEXT, END"} {
		checkRefused(t, row(s), api.ErrJump)
	}
	for _, s := range []string{"GET 1 1, DROP, END", "PUSH 1, PUT 0 0, END", "LOCK 1, GET 2 1, DROP, UNLOCK 1, END", "LOOP 2, LOCK 1, UNLOCK 1, NEXT, END", "LOCK 2, LOCK 1, UNLOCK 1, UNLOCK 2, END", "LOCK 1, LOCK 1, UNLOCK 1, UNLOCK 1, END", "LOCK 1, UNLOCK 1, LOCK 2, UNLOCK 2, END", "LOCK 1, UNLOCK 1, GET 1 1, DROP, END"} {
		checkRefused(t, row(s), api.ErrLock)
	}
}

// P8.1, R3: rows that types.Stacks refuses, with each of its errors.
func TestNewOfWhatStacksRefuses(t *testing.T) {
	for _, s := range []string{"JUMP 1, PUSH 1, END", "JUMP 1, DUP, END", "LOOP 2, JUMP 1, PUSH 1, NEXT, END"} {
		checkRefused(t, row(s), api.ErrJump)
	}
	for _, s := range []string{"DROP, END", "PUSH 1, SWAP, END", "BRANCH 0, END", "OUT 1, END", many(17, "PUSH 1") + "END", many(16, "PUSH 1") + "DUP, END"} {
		checkRefused(t, row(s), api.ErrStack)
	}
	for _, s := range []string{"PUSH 1, CAST, END", "PUSH 1, BRANCH 0, END", yes + ", OUT 1, END", yes + ", NEG, END", yes + ", BRANCH 1, PUSH 1, END", "LOOP 2, PUSH 1, NEXT, END"} {
		checkRefused(t, row(s), api.ErrType)
	}
}

// P8.1, R2: of both, nest.Locks' error, wherever it stands.
func TestNewTakesTheErrorOfLocksFirst(t *testing.T) {
	checkRefused(t, row("DROP, GET 1 1, END"), api.ErrLock)
	checkRefused(t, row("PUSH 1, NOT, GET 1 1, END"), api.ErrLock)
	checkRefused(t, row("JUMP 1, DUP, GET 1 1, END"), api.ErrLock)
	checkRefused(t, row("DUP, LOCK 1, UNLOCK 1, LOCK 2, UNLOCK 2, END"), api.ErrLock)
	checkRefused(t, row("DROP, JUMP 5, END"), api.ErrJump)
	checkRefused(t, row("DROP, NEXT, END"), api.ErrNest)
	checkRefused(t, row("DROP"), api.ErrNest)
	checkRefused(t, append(row("DROP"), api.Instr{Op: op.End, B: 1}), api.ErrArg)
}

// strangers is what New did not give: nil, others' zero machines, and the fields of a machine, that runs or not, at another place.
func strangers(t *testing.T) []*Machine {
	idle, runs := fresh(t, "END"), began(t, "LOCK 1, PUSH 7, OUT 1, PUSH 1, STORER 1, PUSH 8, PUSH 0, TWO 4, UNLOCK 1, END")
	steps(t, runs, &Memory{}, 8)
	a, b := *idle, *runs
	return []*Machine{nil, {}, new(Machine), {row: row("END")}, &a, &b}
}

// P8.1 to P8.3: every call of a machine that is none.
func TestOfNoMachine(t *testing.T) {
	for k, m := range strangers(t) {
		mem := &Memory{}
		for _, in := range [][16]int{{}, inputs(1, 2, 3)} {
			if e := m.Start(in); e != api.ErrNil {
				t.Errorf("%d: Start: %d", k, e)
			}
		}
		for _, mem := range []*Memory{nil, mem} {
			if x, e := m.Step(mem); x != (Event{}) || e != api.ErrNil {
				t.Errorf("%d: Step: %v, %d", k, x, e)
			}
		}
		checkView(t, m, view{at: -1})
		if c := m.Copy(); c != nil {
			t.Errorf("%d: Copy: %v", k, c)
		}
		if *mem != (Memory{}) {
			t.Errorf("%d: the blocks are %v", k, *mem)
		}
	}
}

// P8.1 to P8.3: a machine is not touched by what is asked of its fields at another place.
func TestFieldsElsewhereTouchNothing(t *testing.T) {
	m := began(t, "PUSH 7, OUT 1, END")
	elsewhere := *m
	elsewhere.Start([16]int{})
	elsewhere.Step(&Memory{})
	checkView(t, m, view{running: true})
	if n := finish(t, m, &Memory{}); n != 3 {
		t.Errorf("%d steps", n)
	}
	checkOuts(t, m, 1, 7)
}

// P8.1: Start while it runs, at the beginning, in the middle, in a loop and a lock: nothing changes, the inputs neither.
func TestStartWhileItRuns(t *testing.T) {
	s := "IN 0, LOCK 2, LOOP 2, IN 1, OUT 0, IN 1, STORER 3, NEXT, PUSH 0, TWO 4, DROP, UNLOCK 2, IN 2, OUT 2, END"
	m, o, mem, other := began(t, s, 5, 6, 7), modelOf(row(s)), &Memory{}, &Memory{}
	o.start(inputs(5, 6, 7))
	for o.running {
		if e := m.Start(inputs(90, 91, 92)); e != api.ErrState {
			t.Errorf("Start at %d: %d", o.place, e)
		}
		checkView(t, m, o.view())
		want := o.step(other)
		if x, e := m.Step(mem); x != want || e != api.OK {
			t.Fatalf("Step: %v, %d; want %v", x, e, want)
		}
	}
	checkView(t, m, o.view())
	checkOuts(t, m, 0, 6, 2, 7)
	start(t, m)
}

// P8.2: Step while it does not run: of a new machine, and behind an End; with no memory the error is the same one (R2).
func TestStepWhileItDoesNotRun(t *testing.T) {
	m := fresh(t, "LOCK 0, PUSH 3, DUP, PUT 0 0, OUT 5, UNLOCK 0, PUSH 1, PUSH 0, TWO 5, STORER 0, PUSH 4, END")
	check := func() {
		t.Helper()
		before, mem := viewOf(m), &Memory{}
		for _, mem := range []*Memory{mem, nil, mem} {
			if x, e := m.Step(mem); x != (Event{}) || e != api.ErrState {
				t.Errorf("Step: %v, %d", x, e)
			}
		}
		if *mem != (Memory{}) {
			t.Errorf("the blocks are %v", *mem)
		}
		checkView(t, m, before)
	}
	check()
	for range 2 {
		wholeRun(t, m, &Memory{})
		check()
	}
	checkCounts(t, m, 1, 12)
	checkOuts(t, m, 5, 3)
}

// P8.2: Step with no memory while it runs, ahead of each instruction, those that ask no block too: nothing changes.
func TestStepWithNoMemory(t *testing.T) {
	s := "IN 0, OUT 1, LOCK 2, LOOP 2, GET 2 7, PUT 2 6, NEXT, UNLOCK 2, PUSH 1, PUSH 0, TWO 4, DROP, PUSH 9, STORER 1, JUMP 0, END"
	m, o, mem, other := began(t, s, 5), modelOf(row(s)), &Memory{}, &Memory{}
	mem.Blocks[2][7], other.Blocks[2][7] = 8, 8
	o.start(inputs(5))
	for o.running {
		if x, e := m.Step(nil); x != (Event{}) || e != api.ErrNil {
			t.Errorf("Step at %d: %v, %d", o.place, x, e)
		}
		checkView(t, m, o.view())
		want := o.step(other)
		if x, e := m.Step(mem); x != want || e != api.OK || *mem != *other {
			t.Fatalf("Step: %v, %d, %v; want %v, %v", x, e, *mem, want, *other)
		}
	}
	checkView(t, m, o.view())
}

// P8.2: what lays values on the stack, changes their order, or takes them.
func TestStackOperations(t *testing.T) {
	checkSpots(t, "END", nil, ended)
	checkSpots(t, "PUSH 5, PUSH -6, DROP, DUP, END", nil, spot{1, "5", Event{}}, spot{2, "5 -6", Event{}}, spot{3, "5", Event{}}, spot{4, "5 5", Event{}}, spot{-1, "5 5", Event{Kind: Ended}})
	checkSpots(t, "PUSH 1, PUSH 2, PUSH 3, SWAP, DROP, END", nil, spot{1, "1", Event{}}, spot{2, "1 2", Event{}}, spot{3, "1 2 3", Event{}}, spot{4, "1 3 2", Event{}}, spot{5, "1 3", Event{}}, spot{-1, "1 3", Event{Kind: Ended}})
	checkSpots(t, "PUSH 9223372036854775807, PUSH -9223372036854775808, SWAP, DUP, END", nil,
		spot{1, "9223372036854775807", Event{}}, spot{2, "9223372036854775807 -9223372036854775808", Event{}}, spot{3, "-9223372036854775808 9223372036854775807", Event{}},
		spot{4, "-9223372036854775808 9223372036854775807 9223372036854775807", Event{}}, spot{-1, "-9223372036854775808 9223372036854775807 9223372036854775807", Event{Kind: Ended}})
	checkSpots(t, "IN 0, NEG, IN 1, NEG, END", []int{7, -7}, spot{1, "7", Event{}}, spot{2, "-7", Event{}}, spot{3, "-7 -7", Event{}}, spot{4, "-7 7", Event{}}, spot{-1, "-7 7", Event{Kind: Ended}})
	checkSpots(t, "IN 0, NEG, END", []int{bottom}, spot{1, "-9223372036854775808", Event{}}, spot{2, "-9223372036854775808", Event{}}, spot{-1, "-9223372036854775808", Event{Kind: Ended}})
	// A truth stands there as 1, or 0; Cast lets it be.
	checkSpots(t, "PUSH 4, PUSH 4, TWO 12, NOT, NOT, CAST, NEG, END", nil, spot{1, "4", Event{}}, spot{2, "4 4", Event{}}, spot{3, "1", Event{}}, spot{4, "0", Event{}}, spot{5, "1", Event{}}, spot{6, "1", Event{}}, spot{7, "-1", Event{}}, spot{-1, "-1", Event{Kind: Ended}})
	checkSpots(t, "PUSH 9, PUSH 4, PUSH 4, TWO 11, DUP, CAST, END", nil, spot{1, "9", Event{}}, spot{2, "9 4", Event{}}, spot{3, "9 4 4", Event{}}, spot{4, "9 0", Event{}}, spot{5, "9 0 0", Event{}}, spot{6, "9 0 0", Event{}}, spot{-1, "9 0 0", Event{Kind: Ended}})
}

// P8.2: Two with each of its operations: what it leaves, above what lay below, and whether it is a fault.
func TestTwo(t *testing.T) {
	for _, c := range []struct{ of, lower, upper, v, faults int }{
		{num.Add, 7, 5, 12, 0}, {num.Sub, 7, 5, 2, 0}, {num.Sub, 5, 7, -2, 0}, {num.Mul, 7, -5, -35, 0},
		{num.Div, 17, 5, 3, 0}, {num.Div, 5, 17, 0, 0}, {num.Div, -7, 2, -3, 0}, {num.Div, 7, 0, 0, 1}, {num.Div, 0, 7, 0, 0}, {num.Div, 0, 0, 0, 1}, {num.Div, bottom, -1, bottom, 0},
		{num.Mod, 17, 5, 2, 0}, {num.Mod, 5, 17, 5, 0}, {num.Mod, -7, 2, -1, 0}, {num.Mod, 7, 0, 0, 1}, {num.Mod, 0, 7, 0, 0}, {num.Mod, 0, 0, 0, 1}, {num.Mod, bottom, -1, 0, 0},
		{num.And, 12, 10, 8, 0}, {num.Or, 12, 10, 14, 0}, {num.Xor, 12, 10, 6, 0},
		{num.Shl, 3, 2, 12, 0}, {num.Shl, 2, 3, 16, 0}, {num.Shl, 1, 64, 1, 0}, {num.Shr, -7, 1, -4, 0}, {num.Shr, 1, -7, 0, 0},
		{num.Lt, 1, 2, 1, 0}, {num.Lt, 2, 1, 0, 0}, {num.Lt, 2, 2, 0, 0}, {num.Eq, 2, 2, 1, 0}, {num.Eq, 2, 3, 0, 0},
		{num.Add, top, 1, bottom, 0}, {num.Add, 0, 0, 0, 0}, {num.Mul, 0, 0, 0, 0}, {num.Shl, 0, 0, 0, 0},
	} {
		l := append(row("PUSH 99, IN 3, IN 4"), api.Instr{Op: op.Two, A: c.of}, api.Instr{Op: op.End})
		m := freshOf(t, l)
		start(t, m, 0, 0, 0, c.lower, c.upper)
		steps(t, m, &Memory{}, 4)
		checkView(t, m, view{running: true, at: 4, stack: []int{99, c.v}, faults: c.faults, steps: 4})
	}
}

// P8.2: Two of all its operations and pairs of numbers, as num.Two has it.
func TestTwoOfManyNumbers(t *testing.T) {
	few := []int{bottom, bottom + 1, -64, -2, -1, 0, 1, 2, 63, 64, 65, 1000, top - 1, top}
	for a := num.Add; a <= num.Eq; a++ {
		m := freshOf(t, append(row("IN 0, IN 1"), api.Instr{Op: op.Two, A: a}, api.Instr{Op: op.End}))
		for _, lower := range few {
			for _, upper := range few {
				v, fault := num.Two(a, lower, upper)
				wholeRun(t, m, &Memory{}, lower, upper)
				checkView(t, m, view{at: -1, stack: []int{v}, faults: num.Bool(fault), steps: 4})
			}
		}
	}
}

// P8.2, P8.3: faults are counted, and the run goes on.
func TestFaultsAreCounted(t *testing.T) {
	m := began(t, "LOOP 5, IN 0, IN 1, TWO 4, OUT 0, IN 1, IN 0, TWO 5, OUT 1, NEXT, END", 0, 9)
	want := []int{0, 0, 0, 0, 0, 0, 0, 1, 1, 1, 1, 1, 1, 1, 1, 1, 2}
	for k, n := range want {
		steps(t, m, &Memory{}, 1)
		if m.Faults() != n {
			t.Errorf("behind step %d: %d faults; want %d", k+1, m.Faults(), n)
		}
	}
	finish(t, m, &Memory{})
	checkCounts(t, m, 5, 47)
	wholeRun(t, m, &Memory{}, 0, 0)
	checkCounts(t, m, 10, 47)
	wholeRun(t, m, &Memory{}, 1, 1)
	checkCounts(t, m, 0, 47)
}

// P8.2: Both, Either and Not of all truths, above a number that stays.
func TestTruths(t *testing.T) {
	for _, c := range []struct {
		name  string
		truth []int
		v     int
	}{
		{"BOTH", []int{0, 0}, 0}, {"BOTH", []int{0, 1}, 0}, {"BOTH", []int{1, 0}, 0}, {"BOTH", []int{1, 1}, 1},
		{"EITHER", []int{0, 0}, 0}, {"EITHER", []int{0, 1}, 1}, {"EITHER", []int{1, 0}, 1}, {"EITHER", []int{1, 1}, 1},
		{"NOT", []int{0}, 1}, {"NOT", []int{1}, 0}, {"CAST", []int{0}, 0}, {"CAST", []int{1}, 1},
	} {
		s := "PUSH 77"
		for _, v := range c.truth {
			s += ", " + truthOf(v)
		}
		m := began(t, s+", "+c.name+", END")
		steps(t, m, &Memory{}, 2+3*len(c.truth))
		checkView(t, m, view{running: true, at: 2 + 3*len(c.truth), stack: []int{77, c.v}, steps: 2 + 3*len(c.truth)})
	}
}

// P8.2: each local is one of its own, the first and the last too, and 0 at the beginning of each run.
func TestLocals(t *testing.T) {
	checkSpots(t, "LOADL 0, LOADL 7, IN 0, STOREL 7, IN 1, STOREL 0, LOADL 7, LOADL 0, LOADL 3, END", []int{5, 6}, spot{1, "0", Event{}}, spot{2, "0 0", Event{}}, spot{3, "0 0 5", Event{}}, spot{4, "0 0", Event{}}, spot{5, "0 0 6", Event{}}, spot{6, "0 0", Event{}}, spot{7, "0 0 5", Event{}}, spot{8, "0 0 5 6", Event{}}, spot{9, "0 0 5 6 0", Event{}}, spot{-1, "0 0 5 6 0", Event{Kind: Ended}})
	checkPlaces(t, 8, "LOADL", "STOREL", false)
}

// P8.2: each retained number is one of its own, and stays from run to run.
func TestRetained(t *testing.T) {
	checkPlaces(t, 8, "LOADR", "STORER", true)
	m := began(t, "IN 0, STORER 0, IN 1, STORER 7, LOADR 0, LOADR 7, END", 5, 6)
	for k, want := range [][8]int{{}, {5}, {5}, {5, 0, 0, 0, 0, 0, 0, 6}, {5, 0, 0, 0, 0, 0, 0, 6}} {
		steps(t, m, &Memory{}, 1)
		if m.Retained() != want {
			t.Errorf("behind step %d: %v; want %v", k+1, m.Retained(), want)
		}
	}
	finish(t, m, &Memory{})
	checkView(t, m, view{at: -1, stack: []int{5, 6}, retained: [8]int{5, 0, 0, 0, 0, 0, 0, 6}, steps: 7})
}

// checkPlaces asks for what is loaded ahead of storing and behind it, in two runs; stays tells whether the second run has what the first one stored.
func checkPlaces(t *testing.T, n int, load, store string, stays bool) {
	t.Helper()
	loads, stores := "", ""
	var places, old, stored, later []int
	for p := range n {
		loads += line(load, p) + ", "
		stores += line("IN", p) + ", " + line(store, p) + ", "
		places = append(places, 0)
		stored = append(stored, 100+p)
		later = append(later, -p)
	}
	if old = places; stays {
		old = stored
	}
	m := fresh(t, loads+stores+loads+"END")
	wholeRun(t, m, &Memory{}, stored...)
	if want := append(slices.Clone(places), stored...); !slices.Equal(m.Stack(), want) {
		t.Errorf("%s: %v; want %v", load, m.Stack(), want)
	}
	start(t, m, later...)
	finish(t, m, &Memory{})
	if want := append(slices.Clone(old), later...); !slices.Equal(m.Stack(), want) {
		t.Errorf("%s in the second run: %v; want %v", load, m.Stack(), want)
	}
}

// line is an operation's line with one number.
func line(name string, a int) string {
	return name + " " + numbers([]int{a})
}

// P8.2: each input, the first and the last too, is what Start was handed, from run to run another one.
func TestInputs(t *testing.T) {
	s := ""
	var in, other []int
	for p := range 16 {
		s += line("IN", p) + ", "
		in, other = append(in, 1000-p), append(other, p*p)
	}
	m := fresh(t, s+"END")
	wholeRun(t, m, &Memory{}, in...)
	checkView(t, m, view{at: -1, stack: in, steps: 17})
	wholeRun(t, m, &Memory{}, other...)
	checkView(t, m, view{at: -1, stack: other, steps: 17})
	wholeRun(t, m, &Memory{})
	checkView(t, m, view{at: -1, stack: make([]int, 16), steps: 17})
}

// P8.2: each word of each block, the first and the last too, is read and written where it stands.
func TestWords(t *testing.T) {
	for a := range 8 {
		for b := range 8 {
			at := numbers([]int{a, b})
			m, mem := fresh(t, line("LOCK", a)+", GET "+at+", OUT 1, IN 0, PUT "+at+", GET "+at+", OUT 2, "+line("UNLOCK", a)+", END"), &Memory{}
			for k := range 64 {
				mem.Blocks[k/8][k%8] = 500 + k
			}
			want := *mem
			want.Blocks[a][b] = 9
			start(t, m, 9)
			steps(t, m, mem, 4)
			if mem.Blocks[a][b] != 500+8*a+b {
				t.Errorf("block %d, word %d was written by reading", a, b)
			}
			finish(t, m, mem)
			checkOuts(t, m, 1, 500+8*a+b, 2, 9)
			if *mem != want {
				t.Errorf("block %d, word %d: %v", a, b, *mem)
			}
		}
	}
}

// P8.2: the memory is the one that each step is handed, and none is kept.
func TestMemoryOfEachStep(t *testing.T) {
	m := began(t, "LOCK 1, GET 1 2, PUT 1 3, UNLOCK 1, END")
	first, second, third := &Memory{}, &Memory{}, &Memory{}
	first.Blocks[1][2], second.Blocks[1][2], third.Blocks[1][2] = 1, 2, 3
	steps(t, m, first, 1)
	steps(t, m, second, 1)
	steps(t, m, third, 1)
	if first.Blocks[1][3] != 0 || second.Blocks[1][3] != 0 || third.Blocks[1][3] != 2 {
		t.Error(first, second, third)
	}
	before := *third
	finish(t, m, &Memory{})
	if *third != before {
		t.Error(*third)
	}
}

// P8.2, P8.3: Out to one port twice, to several, to the first and the last; Outs tells them by rising ports.
func TestOuts(t *testing.T) {
	m := began(t, "PUSH 1, OUT 15, PUSH 2, OUT 0, PUSH 3, OUT 7, PUSH 4, OUT 15, PUSH 0, OUT 3, PUSH 0, OUT 7, END")
	for _, want := range [][]int{{15, 1}, {0, 2, 15, 1}, {0, 2, 7, 3, 15, 1}, {0, 2, 7, 3, 15, 4}, {0, 2, 3, 0, 7, 3, 15, 4}, {0, 2, 3, 0, 7, 0, 15, 4}} {
		before := m.Outs()
		steps(t, m, &Memory{}, 1)
		if !slices.Equal(m.Outs(), before) {
			t.Errorf("a Push changed the outputs to %v", m.Outs())
		}
		steps(t, m, &Memory{}, 1)
		checkOuts(t, m, want...)
		if len(m.Stack()) != 0 {
			t.Errorf("the number is still on the stack: %v", m.Stack())
		}
	}
	finish(t, m, &Memory{})
	checkOuts(t, m, 0, 2, 3, 0, 7, 0, 15, 4)
}

// P8.2, P8.3: an output of 0 is one; all 16, written from the last one on.
func TestOutsOfAllPorts(t *testing.T) {
	s := ""
	var want []int
	for p := range 16 {
		s = line("PUSH", p%3-1) + ", " + line("OUT", p) + ", " + s
		want = append(want, p, p%3-1)
	}
	m := began(t, s+"END")
	checkOuts(t, m)
	finish(t, m, &Memory{})
	checkOuts(t, m, want...)
}

// P8.3: Outs, Faults and Steps stay those of the last run, till a new one begins.
func TestCountsOfTheLastRun(t *testing.T) {
	m := fresh(t, "IN 0, PUSH 0, TWO 12, BRANCH 4, PUSH 3, PUSH 0, TWO 4, OUT 9, PUSH 6, STORER 2, IN 0, OUT 4, END")
	checkView(t, m, view{at: -1})
	wholeRun(t, m, &Memory{}, 0)
	last := view{at: -1, outs: []Out{{4, 0}, {9, 0}}, retained: [8]int{0, 0, 6}, faults: 1, steps: 13}
	for range 3 {
		checkView(t, m, last)
		m.Step(&Memory{})
		m.Step(nil)
	}
	start(t, m, 5)
	checkView(t, m, view{running: true, retained: [8]int{0, 0, 6}})
	steps(t, m, &Memory{}, 3)
	checkView(t, m, view{running: true, at: 3, stack: []int{0}, retained: [8]int{0, 0, 6}, steps: 3})
	finish(t, m, &Memory{})
	checkView(t, m, view{at: -1, outs: []Out{{4, 5}}, retained: [8]int{0, 0, 6}, steps: 9})
	start(t, m, 5)
	checkView(t, m, view{running: true, retained: [8]int{0, 0, 6}})
}

// P8.2: a Jump to the next instruction, and farther; what stands on the stack stays.
func TestJump(t *testing.T) {
	checkSpots(t, "JUMP 0, END", nil, spot{1, "", Event{}}, ended)
	checkSpots(t, "PUSH 8, JUMP 0, DROP, END", nil, spot{1, "8", Event{}}, spot{2, "8", Event{}}, spot{3, "", Event{}}, ended)
	checkSpots(t, "IN 0, PUSH 1, TWO 12, BRANCH 2, PUSH 5, JUMP 1, PUSH 6, OUT 0, END", []int{1}, spot{1, "1", Event{}}, spot{2, "1 1", Event{}}, spot{3, "1", Event{}}, spot{4, "", Event{}}, spot{5, "5", Event{}}, spot{7, "5", Event{}}, spot{8, "", Event{}}, ended)
	checkSpots(t, "IN 0, PUSH 1, TWO 12, BRANCH 2, PUSH 5, JUMP 1, PUSH 6, OUT 0, END", []int{2}, spot{1, "2", Event{}}, spot{2, "2 1", Event{}}, spot{3, "0", Event{}}, spot{6, "", Event{}}, spot{7, "6", Event{}}, spot{8, "", Event{}}, ended)
	// The farthest ones: from the row's beginning to its end.
	far := fresh(t, yes+", BRANCH 1, JUMP 194, "+many(194, "JUMP 0")+"END")
	if n := wholeRun(t, far, &Memory{}); n != 6 {
		t.Errorf("%d steps with the Jump", n)
	}
	far = fresh(t, no+", BRANCH 195, "+many(195, "JUMP 0")+"END")
	if n := wholeRun(t, far, &Memory{}); n != 5 {
		t.Errorf("%d steps with the Branch", n)
	}
}

// P8.2: a Branch to the next instruction, and farther, with each truth, that goes from the stack.
func TestBranch(t *testing.T) {
	for truth := range 2 {
		for _, far := range []int{0, 1, 2, 5} {
			m := began(t, "PUSH 33, "+truthOf(truth)+", "+line("BRANCH", far)+", JUMP 0, JUMP 0, JUMP 0, JUMP 0, JUMP 0, END")
			steps(t, m, &Memory{}, 5)
			at := 5
			if truth == 0 {
				at = 5 + far
			}
			checkView(t, m, view{running: true, at: at, stack: []int{33}, steps: 5})
			if n := finish(t, m, &Memory{}); n != 11-at {
				t.Errorf("truth %d, %d farther: %d steps more", truth, far, n)
			}
		}
	}
}

// P8.2: a Branch goes by the upper truth, not by the one below.
func TestBranchOfTheUpperTruth(t *testing.T) {
	for _, c := range []struct{ lower, upper, at int }{{0, 0, 8}, {0, 1, 7}, {1, 0, 8}, {1, 1, 7}} {
		m := began(t, truthOf(c.lower)+", "+truthOf(c.upper)+", BRANCH 1, JUMP 0, DROP, END")
		steps(t, m, &Memory{}, 7)
		checkView(t, m, view{running: true, at: c.at, stack: []int{c.lower}, steps: 7})
	}
}

// P8.2: a loop of one round, where the places go.
func TestLoopWrittenOut(t *testing.T) {
	checkSpots(t, "LOOP 1, NEXT, END", nil, spot{1, "", Event{}}, spot{2, "", Event{}}, ended)
	checkSpots(t, "LOOP 2, NEXT, END", nil, spot{1, "", Event{}}, spot{1, "", Event{}}, spot{2, "", Event{}}, ended)
	checkSpots(t, "PUSH 7, LOOP 3, NEG, NEXT, END", nil, spot{1, "7", Event{}}, spot{2, "7", Event{}}, spot{3, "-7", Event{}}, spot{2, "-7", Event{}}, spot{3, "7", Event{}}, spot{2, "7", Event{}}, spot{3, "-7", Event{}}, spot{4, "-7", Event{}}, spot{-1, "-7", Event{Kind: Ended}})
	checkSpots(t, "LOOP 2, LOOP 1, NEXT, LOOP 2, NEXT, NEXT, END", nil,
		spot{1, "", Event{}}, spot{2, "", Event{}}, spot{3, "", Event{}}, spot{4, "", Event{}}, spot{4, "", Event{}}, spot{5, "", Event{}},
		spot{1, "", Event{}}, spot{2, "", Event{}}, spot{3, "", Event{}}, spot{4, "", Event{}}, spot{4, "", Event{}}, spot{5, "", Event{}}, spot{6, "", Event{}}, ended)
}

// P8.2: loops of one round, of several and of 1000, one behind the other and in one another, by what they count.
func TestLoopCounts(t *testing.T) {
	count := "LOADR 0, PUSH 1, TWO 1, STORER 0"
	for _, n := range []int{1, 2, 3, 10, 255, 256, 999, 1000} {
		m := fresh(t, line("LOOP", n)+", "+count+", NEXT, END")
		for k := 1; k <= 2; k++ {
			if got := wholeRun(t, m, &Memory{}); got != 2+5*n || m.Retained()[0] != k*n {
				t.Errorf("a loop of %d: %d steps, %d", n, got, m.Retained()[0])
			}
		}
	}
	for _, c := range []struct{ outer, inner int }{{1, 1}, {1, 7}, {7, 1}, {3, 4}, {30, 40}, {1000, 2}, {2, 1000}, {1000, 100}} {
		m := fresh(t, line("LOOP", c.outer)+", "+line("LOOP", c.inner)+", "+count+", NEXT, "+line("LOOP", c.inner)+", NEXT, NEXT, END")
		if n := wholeRun(t, m, &Memory{}); n != 2+c.outer*(3+6*c.inner) || m.Retained()[0] != c.outer*c.inner {
			t.Errorf("%d of %d: %d steps, %d", c.outer, c.inner, n, m.Retained()[0])
		}
	}
	if m := fresh(t, "LOOP 1000, LOOP 1000, NEXT, NEXT, END"); wholeRun(t, m, &Memory{}) != 2+1000*1002 {
		t.Errorf("1000 of 1000: %d steps", m.Steps())
	}
}

// P8.2: as many loops in one another as a row has room for.
func TestLoopsThatAreDeep(t *testing.T) {
	m := fresh(t, many(99, "LOOP 1")+many(99, "NEXT")+"END")
	for range 2 {
		if n := wholeRun(t, m, &Memory{}); n != 199 {
			t.Errorf("%d steps", n)
		}
	}
	// Of ten loops of two rounds each, the n-th is begun 2^n times, and its Next is reached twice as often.
	m = fresh(t, many(10, "LOOP 2")+many(10, "NEXT")+"END")
	if n := wholeRun(t, m, &Memory{}); n != 1023+2046+1 {
		t.Errorf("%d steps", n)
	}
}

// P8.2: a jump to a Next is one round less, too; a jump over a loop leaves the loop around it alone.
func TestJumpsAndLoops(t *testing.T) {
	m := fresh(t, "LOOP 4, IN 0, PUSH 0, TWO 12, BRANCH 4, LOADR 1, PUSH 1, TWO 1, STORER 1, NEXT, END")
	if n := wholeRun(t, m, &Memory{}, 1); n != 1+4*5+1 || m.Retained()[1] != 0 {
		t.Errorf("%d steps, %v", n, m.Retained())
	}
	if n := wholeRun(t, m, &Memory{}, 0); n != 1+4*9+1 || m.Retained()[1] != 4 {
		t.Errorf("%d steps, %v", n, m.Retained())
	}
	m = fresh(t, "LOOP 3, IN 0, PUSH 0, TWO 12, BRANCH 2, LOOP 5, NEXT, NEXT, END")
	if n := wholeRun(t, m, &Memory{}, 1); n != 1+3*5+1 {
		t.Errorf("%d steps", n)
	}
	if n := wholeRun(t, m, &Memory{}, 0); n != 1+3*(4+6+1)+1 {
		t.Errorf("%d steps", n)
	}
}

// checkLocks asks for the events of a run, and for what is held behind each of its steps.
func checkLocks(t *testing.T, s string, events []Event, held []int) {
	t.Helper()
	m := began(t, s)
	for k, want := range events {
		x, e := m.Step(&Memory{})
		if x != want || e != api.OK || m.Held() != held[k] {
			t.Errorf("%s: step %d: %v, %d, held %d; want %v, %d", s, k+1, x, e, m.Held(), want, held[k])
		}
	}
	if m.Running() || len(events) != len(held) {
		t.Errorf("%s: it runs still", s)
	}
}

// P8.2, P8.3: the events of Lock and Unlock, of one block and of several, and what is held between.
func TestLocksWrittenOut(t *testing.T) {
	for a := range 8 {
		checkLocks(t, "JUMP 0, "+line("LOCK", a)+", JUMP 0, "+line("UNLOCK", a)+", JUMP 0, END",
			[]Event{{}, {Locked, a}, {}, {Freed, a}, {}, {Ended, 0}}, []int{0, 1 << a, 1 << a, 0, 0, 0})
	}
	checkLocks(t, "LOCK 0, LOCK 3, LOCK 7, UNLOCK 7, JUMP 0, UNLOCK 3, UNLOCK 0, END",
		[]Event{{Locked, 0}, {Locked, 3}, {Locked, 7}, {Freed, 7}, {}, {Freed, 3}, {Freed, 0}, {Ended, 0}}, []int{1, 9, 137, 9, 9, 1, 0, 0})
	checkLocks(t, "LOCK 4, LOOP 2, GET 4 1, DROP, NEXT, UNLOCK 4, END",
		[]Event{{Locked, 4}, {}, {}, {}, {}, {}, {}, {}, {Freed, 4}, {Ended, 0}}, []int{16, 16, 16, 16, 16, 16, 16, 16, 0, 0})
	var events []Event
	var held []int
	ahead, behind := "", ""
	for a := range 8 {
		ahead, behind = ahead+line("LOCK", a)+", ", line("UNLOCK", a)+", "+behind
		events, held = append(events, Event{Locked, a}), append(held, 2<<a-1)
	}
	for a := 7; a >= 0; a-- {
		events, held = append(events, Event{Freed, a}), append(held, 1<<a-1)
	}
	checkLocks(t, ahead+behind+"END", append(events, Event{Ended, 0}), append(held, 0))
}

// P8.2: no other instruction tells another event than Plain, of block 0.
func TestPlainEvents(t *testing.T) {
	m := began(t, "LOCK 7, PUSH 5, DROP, IN 3, DUP, SWAP, TWO 3, NEG, STOREL 7, LOADL 7, STORER 6, LOADR 6, OUT 5, GET 7 5, PUT 7 4, "+yes+", NOT, "+yes+", BOTH, "+no+", EITHER, CAST, DROP, "+no+", BRANCH 1, JUMP 2, LOOP 3, NEXT, UNLOCK 7, END")
	seen := map[Event]int{}
	for m.Running() {
		x, e := m.Step(&Memory{})
		if e != api.OK {
			t.Fatal(e)
		}
		seen[x]++
	}
	want := map[Event]int{{}: m.Steps() - 3, {Locked, 7}: 1, {Freed, 7}: 1, {Ended, 0}: 1}
	if !maps.Equal(seen, want) {
		t.Errorf("the events were %v; want %v", seen, want)
	}
}

// P8.2: End with something on the stack ends the run; the next one begins with an empty stack.
func TestEndWithValues(t *testing.T) {
	for _, s := range []string{"PUSH 1, END", "PUSH 1, PUSH 2, " + yes + ", END", many(16, "IN 0") + "END"} {
		m := began(t, s)
		n := len(row(s))
		steps(t, m, &Memory{}, n-1)
		stack := m.Stack()
		if x, e := m.Step(&Memory{}); x != (Event{Kind: Ended}) || e != api.OK {
			t.Errorf("%s: %v, %d", s, x, e)
		}
		checkView(t, m, view{at: -1, stack: stack, steps: n})
		start(t, m)
		checkView(t, m, view{running: true})
		finish(t, m, &Memory{})
		checkView(t, m, view{at: -1, stack: stack, steps: n})
	}
}

// P8.2, P8.3: a second run has what was retained, and nothing else of the first one; a machine of its own has none of it.
func TestSecondRun(t *testing.T) {
	s := "LOADR 7, IN 0, TWO 1, DUP, STORER 7, OUT 0, LOADL 1, OUT 1, PUSH 5, STOREL 1, END"
	m, other := fresh(t, s), fresh(t, s)
	for k, sum := range []int{3, 7, 12, 12, 2} {
		wholeRun(t, m, &Memory{}, []int{3, 4, 5, 0, -10}[k])
		checkOuts(t, m, 0, sum, 1, 0)
		if m.Retained() != [8]int{7: sum} {
			t.Errorf("run %d: %v", k, m.Retained())
		}
	}
	checkView(t, other, view{at: -1})
	wholeRun(t, other, &Memory{}, 1)
	checkOuts(t, other, 0, 1, 1, 0)
}

// copied is a row with everything that a state has.
const copied = "IN 0, STOREL 2, LOCK 3, PUSH 7, LOOP 3, IN 1, OUT 5, LOADL 2, PUSH 1, TWO 1, DUP, STOREL 2, STORER 4, LOOP 2, PUSH 1, PUSH 0, TWO 4, DROP, LOADL 2, PUT 3 6, NEXT, NEXT, NEG, OUT 1, LOADL 2, OUT 2, UNLOCK 3, IN 15, OUT 15, END"

// someIn is inputs of which the first, the second and the last are none of the others.
func someIn() [16]int { return [16]int{0: 50, 1: 60, 15: 70} }

// P8.3: a Copy at each place of a run: it goes on to the end while the machine stands, and the other way round.
func TestCopyAtEachPlace(t *testing.T) {
	all, last := fresh(t, copied), &Memory{}
	all.Start(someIn())
	total := finish(t, all, last)
	for n := range total {
		m, mem := fresh(t, copied), &Memory{}
		m.Start(someIn())
		steps(t, m, mem, n)
		c, stands := m.Copy(), viewOf(m)
		checkView(t, c, stands)
		own := *mem
		if got := finish(t, c, &own); got != total-n || own != *last {
			t.Errorf("the copy of step %d: %d steps more, %v", n, got, own)
		}
		checkView(t, c, viewOf(all))
		checkView(t, m, stands)
		again := m.Copy()
		if got := finish(t, m, mem); got != total-n || *mem != *last {
			t.Errorf("step %d: %d steps more, %v", n, got, *mem)
		}
		checkView(t, m, viewOf(all))
		checkView(t, again, stands)
		checkView(t, c, viewOf(all))
	}
}

// P8.3: both go on by turns, with blocks of their own; neither sees the other.
func TestCopyByTurns(t *testing.T) {
	for ahead := range 30 {
		m, o, mem, other := fresh(t, copied), modelOf(row(copied)), &Memory{}, &Memory{}
		m.Start(someIn())
		o.start(someIn())
		for range ahead {
			o.step(other)
		}
		steps(t, m, mem, ahead)
		c, own := m.Copy(), *mem
		for o.running {
			o.step(other)
			steps(t, c, &own, 1)
			checkView(t, c, o.view())
			steps(t, m, mem, 1)
			checkView(t, m, o.view())
		}
		if *mem != *other || own != *other {
			t.Errorf("%v, %v; want %v", *mem, own, *other)
		}
	}
}

// P8.3: a Copy of a machine that does not run: new, and behind a run; each begins a run of its own.
func TestCopyOfWhatDoesNotRun(t *testing.T) {
	m := fresh(t, "LOADR 0, IN 0, TWO 1, DUP, STORER 0, OUT 3, PUSH 1, END")
	c := m.Copy()
	checkView(t, c, view{at: -1})
	wholeRun(t, c, &Memory{}, 5)
	checkView(t, m, view{at: -1})
	if x, e := m.Step(&Memory{}); x != (Event{}) || e != api.ErrState {
		t.Errorf("Step: %v, %d", x, e)
	}
	d := c.Copy()
	checkView(t, d, viewOf(c))
	wholeRun(t, d, &Memory{}, 10)
	checkView(t, d, view{at: -1, stack: []int{1}, outs: []Out{{3, 15}}, retained: [8]int{15}, steps: 8})
	checkView(t, c, view{at: -1, stack: []int{1}, outs: []Out{{3, 5}}, retained: [8]int{5}, steps: 8})
	wholeRun(t, c, &Memory{}, 1)
	checkOuts(t, c, 3, 6)
	checkOuts(t, d, 3, 15)
}

// P8.3: a Copy of one that runs refuses Start, of its own state; a copy of a copy is one, too.
func TestCopyHasItsOwnState(t *testing.T) {
	m := began(t, "PUSH 1, DROP, END")
	c := m.Copy().Copy()
	if e := c.Start([16]int{}); e != api.ErrState {
		t.Errorf("Start: %d", e)
	}
	if x, e := c.Step(nil); x != (Event{}) || e != api.ErrNil {
		t.Errorf("Step: %v, %d", x, e)
	}
	finish(t, m, &Memory{})
	checkView(t, c, view{running: true})
	finish(t, c, &Memory{})
	if m == c || m.Copy() == m {
		t.Error("the copy is the machine itself")
	}
}

// pieces is instructions of which small rows are made.
func pieces() []api.Instr {
	return row("PUSH 1, DROP, DUP, SWAP, TWO 2, TWO 4, TWO 12, NOT, EITHER, CAST, OUT 1, LOADR 0, STORER 0, JUMP 0, JUMP 1, BRANCH 0, BRANCH 1, LOOP 2, NEXT")
}

// eachShort calls see with all rows of up to most pieces, and End, behind what stands ahead.
func eachShort(most int, ahead []api.Instr, see func([]api.Instr)) {
	var longer func(l []api.Instr)
	longer = func(l []api.Instr) {
		see(append(slices.Clone(l), api.Instr{Op: op.End}))
		if len(l) < most+len(ahead) {
			for _, i := range pieces() {
				longer(append(slices.Clone(l), i))
			}
		}
	}
	longer(ahead)
}

// P8.1 to P8.3: all rows of up to four pieces, behind a few values: New refuses what Locks or Stacks refuses, and others run as the chapter says.
func TestAllShortRows(t *testing.T) {
	ran, r := 0, rand.New(rand.NewSource(8))
	for _, ahead := range []string{"IN 0", yes + ", IN 0", "IN 0, IN 1, TWO 12, IN 1, IN 1, TWO 11"} {
		eachShort(4, row(ahead), func(l []api.Instr) {
			_, want := nest.Locks(l)
			if want == api.OK {
				_, want = types.Stacks(l)
			}
			if want != api.OK {
				checkRefused(t, l, want)
				return
			}
			followRow(t, l, r)
			ran++
		})
	}
	if ran < 5000 {
		t.Errorf("just %d rows ran", ran)
	}
}

// plain is, by operations, instructions that are neither a jump nor the edge of a region, nor End, and ask no block.
func plain() [][]api.Instr {
	var all [][]api.Instr
	for o := op.Push; o <= op.Out; o++ {
		var l []api.Instr
		for _, a := range []int{bottom, -1, 0, 1, 2, 3, 4, 5, 6, 7, 8, 9, 10, 11, 12, 15, 63, top} {
			if i := (api.Instr{Op: o, A: a}); op.Right(i) {
				l = append(l, i)
			}
		}
		all = append(all, l)
	}
	return all
}

// maker makes rows that run, of plain ones, with the stack as types has it.
type maker struct {
	r     *rand.Rand
	plain [][]api.Instr
	stack string
	held  []int
}

// one is an instruction that may come at the stack, and leaves at least low values alone.
func (m *maker) one(low int) api.Instr {
	for {
		same := m.plain[m.r.Intn(len(m.plain))]
		i := same[m.r.Intn(len(same))]
		if len(m.held) > 0 && m.r.Intn(2) == 0 {
			i = api.Instr{Op: op.Get + m.r.Intn(2), A: m.held[m.r.Intn(len(m.held))], B: m.r.Intn(8)}
		}
		stays := len(m.stack) - len(types.Takes(i))
		if stays < low {
			continue
		}
		took := m.stack[stays:]
		gives := types.Gives(i, took)
		fit := gives != "" || types.Takes(i) == " " || types.Takes(i) == took
		if fit && stays+len(gives) <= 16 {
			m.stack = m.stack[:stays] + gives
			return i
		}
	}
}

// same is a part that leaves the stack as it was.
func (m *maker) same(deep int) []api.Instr {
	stack := m.stack
	l := m.part(deep, len(stack))
	for len(m.stack) > len(stack) {
		l, m.stack = append(l, api.Instr{Op: op.Drop}), m.stack[:len(m.stack)-1]
	}
	return l
}

// part is a few instructions, with up to deep loops and choices in one another.
func (m *maker) part(deep, low int) []api.Instr {
	var l []api.Instr
	for range m.r.Intn(6) {
		kind := m.r.Intn(8)
		switch {
		case deep == 0 || kind < 4:
			l = append(l, m.one(low))
		case kind == 4:
			l = append(append(append(l, api.Instr{Op: op.Loop, A: 1 + m.r.Intn(4)}), m.same(deep-1)...), api.Instr{Op: op.Next})
		case kind == 5 && len(m.stack) <= 13:
			l = append(l, m.truths()...)
		case kind > 5 && len(m.stack) <= 14:
			l = append(l, m.choice(m.same(deep-1), m.same(deep-1))...)
		}
	}
	return l
}

// truths is two truths, and what is done with truths alone.
func (m *maker) truths() []api.Instr {
	deed := []string{"BOTH", "EITHER", "CAST", "NOT"}[m.r.Intn(4)]
	m.stack += map[string]string{"BOTH": "b", "EITHER": "b", "CAST": "bi", "NOT": "bb"}[deed]
	return row("IN 3, IN 4, TWO 11, IN 0, LOADL 7, TWO 12, " + deed)
}

// choice is a truth, and a Branch over one part, or to the other one of two.
func (m *maker) choice(then, otherwise []api.Instr) []api.Instr {
	l := row([]string{"IN 0, IN 1, TWO 11", "LOADR 0, IN 2, TWO 12", "LOADL 1, LOADL 2, TWO 12, NOT"}[m.r.Intn(3)])
	if m.r.Intn(2) == 0 {
		return append(append(l, api.Instr{Op: op.Branch, A: len(then)}), then...)
	}
	l = append(append(l, api.Instr{Op: op.Branch, A: len(then) + 1}), then...)
	return append(append(l, api.Instr{Op: op.Jump, A: len(otherwise)}), otherwise...)
}

// locked is a part in locks of blocks from that on, that rise, in one another; some are chosen, or not, by a truth.
func (m *maker) locked(from int) []api.Instr {
	if from > 7 || m.r.Intn(4) == 0 {
		return m.same(2)
	}
	block, ahead := from+m.r.Intn(8-from), m.same(1)
	m.held = append(m.held, block)
	within := append([]api.Instr{{Op: op.Lock, A: block}}, m.locked(block+1)...)
	m.held = m.held[:len(m.held)-1]
	within = append(within, api.Instr{Op: op.Unlock, A: block})
	if m.r.Intn(3) == 0 && len(m.stack) <= 14 {
		within = m.choice(within, m.same(1))
	}
	return append(ahead, within...)
}

// some is a row that runs, of at most 200 instructions.
func some(r *rand.Rand, plain [][]api.Instr) []api.Instr {
	for {
		m := maker{r: r, plain: plain}
		l := append(m.part(2, 0), m.locked(0)...)
		l = append(l, m.part(3, 0)...)
		if len(l) < 200 {
			return append(l, api.Instr{Op: op.End})
		}
	}
}

// P8.1 to P8.3: long rows, a few runs each, step by step as the chapter says; all operations and all blocks are among them.
func TestLongRows(t *testing.T) {
	r, ones, seen, blocks := rand.New(rand.NewSource(88)), plain(), map[int]int{}, map[int]int{}
	for range 2000 {
		l := some(r, ones)
		for _, i := range l {
			seen[i.Op]++
			if i.Op == op.Put {
				blocks[i.A]++
			}
		}
		followRow(t, l, r)
	}
	for o := op.Push; o <= op.End; o++ {
		if seen[o] < 100 {
			t.Errorf("%s stood in the rows %d times", op.Name(o), seen[o])
		}
	}
	if len(blocks) != 8 {
		t.Errorf("written blocks: %v", blocks)
	}
}

// most is how many steps a row can take at most, if each Branch goes on and each loop has all of its rounds.
func most(l []api.Instr) int {
	n, times := 0, 1
	var around []int
	for _, i := range l {
		n += times
		switch i.Op {
		case op.Loop:
			around, times = append(around, times), times*i.A
		case op.Next:
			times, around = around[len(around)-1], around[:len(around)-1]
		}
	}
	return n
}

// P8.4: each run ends, with no more steps than its loops have rounds for.
func TestRunsEnd(t *testing.T) {
	r, ones := rand.New(rand.NewSource(888)), plain()
	for range 2000 {
		l := some(r, ones)
		m, bound := freshOf(t, l), most(l)
		for range 2 {
			m.Start(someInputs(r))
			for n := 0; m.Running(); n++ {
				if n == bound {
					t.Fatalf("%s: it runs behind %d steps", show(l), n)
				}
				m.Step(someMemory(r))
			}
			if x, e := m.Step(&Memory{}); x != (Event{}) || e != api.ErrState {
				t.Errorf("%s: behind its end: %v, %d", show(l), x, e)
			}
		}
	}
}

// P8.4: what a step changes of blocks is of those that are held, by what the machine tells alone.
func TestBlocksThatAreNotHeldStay(t *testing.T) {
	r, ones, changed := rand.New(rand.NewSource(8888)), plain(), 0
	for range 2000 {
		l := some(r, ones)
		m, mem := freshOf(t, l), someMemory(r)
		m.Start(someInputs(r))
		for m.Running() {
			before, held := *mem, m.Held()
			m.Step(mem)
			for a := range before.Blocks {
				if before.Blocks[a] == mem.Blocks[a] {
					continue
				}
				changed++
				if held>>a&1 == 0 {
					t.Fatalf("%s: block %d changed, held was %d", show(l), a, held)
				}
			}
		}
		if m.Held() != 0 {
			t.Errorf("%s: behind its end %d is held", show(l), m.Held())
		}
	}
	if changed < 500 {
		t.Errorf("just %d changes were seen", changed)
	}
}

// P8.4, R5: the same inputs, retained numbers and blocks make the same, whatever ran before on the machine or beside it.
func TestTheSameMakesTheSame(t *testing.T) {
	r, ones := rand.New(rand.NewSource(88888)), plain()
	for range 1500 {
		l := some(r, ones)
		a, beside := freshOf(t, l), freshOf(t, l)
		for range r.Intn(3) {
			wholeRun(t, a, someMemory(r), r.Intn(3))
		}
		b, in, mem := a.Copy(), someInputs(r), someMemory(r)
		other := *mem
		a.Start(in)
		b.Start(in)
		beside.Start(someInputs(r))
		for a.Running() || b.Running() {
			x, _ := a.Step(mem)
			beside.Step(someMemory(r))
			if y, _ := b.Step(&other); x != y || *mem != other {
				t.Fatalf("%s: %v, %v", show(l), x, y)
			}
			checkView(t, b, viewOf(a))
		}
	}
}

// R4: the row that New is handed is neither changed nor kept, nor the room behind it.
func TestRowIsNotKept(t *testing.T) {
	room := row("PUSH 1, LOOP 2, NEG, NEXT, OUT 3, END, DUP, DROP")
	kept := slices.Clone(room)
	m, e := New(room[:6])
	if e != api.OK {
		t.Fatal(e)
	}
	start(t, m)
	steps(t, m, &Memory{}, 2)
	c := m.Copy()
	if !slices.Equal(room, kept) {
		t.Errorf("the row handed in is now %s", show(room))
	}
	for p := range room {
		room[p] = api.Instr{}
	}
	if finish(t, m, &Memory{}) != 6 || finish(t, c, &Memory{}) != 6 {
		t.Errorf("%d and %d steps", m.Steps(), c.Steps())
	}
	wholeRun(t, m, &Memory{})
	checkOuts(t, m, 3, 1)
}

// R4: what is answered is new memory, with the room behind it.
func TestAnswersAreNewMemory(t *testing.T) {
	m := began(t, "PUSH 1, PUSH 2, PUSH 3, DROP, PUSH 4, OUT 2, PUSH 5, OUT 9, PUSH 6, END")
	for m.Running() {
		want := viewOf(m)
		stack, outs := m.Stack(), m.Outs()
		for k := range stack[:cap(stack)] {
			stack[:cap(stack)][k] = 99
		}
		for k := range outs[:cap(outs)] {
			outs[:cap(outs)][k] = Out{99, 99}
		}
		retained := m.Retained()
		retained[0] = 99
		checkView(t, m, want)
		steps(t, m, &Memory{}, 1)
	}
	checkView(t, m, view{at: -1, stack: []int{1, 2, 6}, outs: []Out{{2, 4}, {9, 5}}, steps: 10})
	before := m.Outs()
	wholeRun(t, m, &Memory{})
	if !slices.Equal(before, []Out{{2, 4}, {9, 5}}) {
		t.Errorf("an earlier answer is now %v", before)
	}
}

// R4: an earlier answer stays as it was while the machine goes on.
func TestEarlierAnswersStay(t *testing.T) {
	m := began(t, "PUSH 1, PUSH 2, DROP, PUSH 3, SWAP, NEG, OUT 4, PUSH 7, OUT 4, END")
	var stacks [][]int
	var texts []string
	for m.Running() {
		stacks, texts = append(stacks, m.Stack()), append(texts, numbers(m.Stack()))
		steps(t, m, &Memory{}, 1)
	}
	for k, s := range texts {
		if numbers(stacks[k]) != s {
			t.Errorf("the stack ahead of step %d was %s, and is now %v", k+1, s, stacks[k])
		}
	}
}
