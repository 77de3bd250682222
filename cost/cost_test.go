package cost

import (
	"math/big"
	"math/rand"
	"slices"
	"strconv"
	"strings"
	"testing"

	"camshaft/api"
	"camshaft/nest"
	"camshaft/op"
	"camshaft/text"
	"camshaft/types"
	"camshaft/vm"
)

const (
	top    = 1<<63 - 1
	bottom = -1 << 63
	limit  = 1 << 20
)

// row is the instructions whose lines, with a comma between, s is.
func row(s string) []api.Instr {
	l, e := text.Parse(strings.ReplaceAll(s, ", ", "\n") + "\n")
	if e != api.OK {
		panic(s)
	}
	return l
}

// show is a row in few letters, of one that is not right too.
func show(l []api.Instr) string {
	s := ""
	for _, i := range l {
		if line := text.Line(i); line != "" {
			s += line[:len(line)-1] + ", "
		} else {
			s += "none, "
		}
	}
	return strings.TrimSuffix(s, ", ")
}

// many is a piece of a row's text so many times, each with a comma behind.
func many(n int, s string) string { return strings.Repeat(s+", ", n) }

// yes is three instructions that lay a truth on the stack.
const yes = "PUSH 1, PUSH 1, TWO 12"

func line(name string, a int) string { return name + " " + strconv.Itoa(a) }

// count is how many instructions a piece of a row's text has.
func count(s string) int { return 1 + strings.Count(s, ", ") }

// around is a part, or not: 4 steps ahead of it either way.
func around(part string) string {
	return yes + ", " + line("BRANCH", count(part)) + ", " + part
}

// either is one part or the other one: 4 steps ahead of both, and one more behind the first one.
func either(then, otherwise string) string {
	return yes + ", " + line("BRANCH", count(then)+1) + ", " + then + ", " + line("JUMP", count(otherwise)) + ", " + otherwise
}

// taking is a part without a choice, that takes n steps, from 1 to some two millions, in few instructions.
func taking(n int) string {
	var parts []string
	for n > 3000 {
		inner := min(1000, (n-1)/1000-2)
		parts = append(parts, line("LOOP 1000, LOOP", inner)+", NEXT, NEXT")
		n -= 1 + 1000*(1+inner+1)
	}
	for n > 1 {
		rounds := min(1000, n-1)
		parts = append(parts, line("LOOP", rounds)+", NEXT")
		n -= 1 + rounds
	}
	if n == 1 {
		parts = append(parts, "JUMP 0")
	}
	return strings.Join(parts, ", ")
}

// lockedIn is a part in the lock of a block.
func lockedIn(block int, part string) string {
	return line("LOCK", block) + ", " + part + ", " + line("UNLOCK", block)
}

// words is the chapter's words, over numbers without bounds; of a row that the layers below do not refuse.
type words struct {
	l     []api.Instr
	match []int
	most  bool
	known map[[2]int]*big.Int
}

func wordsOf(l []api.Instr, most bool) *words {
	match, _ := nest.Match(l)
	return &words{l, match, most, map[[2]int]*big.Int{}}
}

// way is the most, or the fewest, steps of a way from one instruction to another one; nil, if there is none.
func (w *words) way(from, to int) *big.Int {
	if from >= to {
		return map[bool]*big.Int{true: new(big.Int)}[from == to]
	}
	key := [2]int{from, to}
	if _, ok := w.known[key]; !ok {
		w.known[key] = w.reckon(from, to)
	}
	return w.known[key]
}

func (w *words) reckon(from, to int) *big.Int {
	i, steps, next := w.l[from], big.NewInt(1), []int{from + 1}
	switch i.Op {
	case op.Loop:
		round := new(big.Int).Add(w.way(from+1, w.match[from]), big.NewInt(1))
		steps.Add(steps, round.Mul(round, big.NewInt(int64(i.A))))
		next = []int{w.match[from] + 1}
	case op.Jump:
		next = []int{from + 1 + i.A}
	case op.Branch:
		next = []int{from + 1, from + 1 + i.A}
	case op.Next, op.End:
		return nil
	}
	var best *big.Int
	for _, n := range next {
		if x := w.way(n, to); x != nil && (best == nil || x.Cmp(best) != 0 && (x.Cmp(best) > 0) == w.most) {
			best = x
		}
	}
	if best == nil {
		return nil
	}
	return steps.Add(steps, best)
}

// steps is P9.1's number.
func (w *words) steps() (int, api.Errno) {
	n := new(big.Int).Add(w.way(0, len(w.l)-1), big.NewInt(1))
	if n.Cmp(big.NewInt(limit)) > 0 {
		return 0, api.ErrBig
	}
	return int(n.Int64()), api.OK
}

// sections is P9.2's list.
func (w *words) sections() ([]Section, api.Errno) {
	if _, e := w.steps(); e != api.OK {
		return nil, e
	}
	var all []Section
	for p, i := range w.l {
		if i.Op == op.Lock {
			all = append(all, Section{i.A, int(w.way(p+1, w.match[p]).Int64()) + 1})
		}
	}
	return all, api.OK
}

// refusal is the error of the layers below.
func refusal(l []api.Instr) api.Errno {
	_, e := nest.Locks(l)
	if e == api.OK {
		_, e = types.Stacks(l)
	}
	return e
}

// stands is where a run stands, with the rounds that are left of each open loop.
type stands struct {
	place, open int
	left        [12]int
}

// moments is the first and the last moment at which a run, of all runs whose Branches go as they like, stands at a place; it is one step farther at each moment.
func moments(l []api.Instr, match []int, from, to int) (first, last int) {
	now := map[stands]bool{{place: from}: true}
	first = -1
	for at := 0; len(now) > 0; at++ {
		next := map[stands]bool{}
		for s := range now {
			if s.place == to {
				if first < 0 {
					first = at
				}
				last = at
				continue
			}
			for _, n := range s.steps(l, match) {
				next[n] = true
			}
		}
		now = next
	}
	return first, last
}

// steps is where it may stand one step farther.
func (s stands) steps(l []api.Instr, match []int) []stands {
	i, n := l[s.place], s
	n.place++
	switch i.Op {
	case op.Loop:
		n.left[n.open] = i.A
		n.open++
	case op.Next:
		n.left[n.open-1]--
		if n.left[n.open-1] > 0 {
			n.place = match[s.place] + 1
			return []stands{n}
		}
		n.open--
	case op.Jump:
		n.place += i.A
	case op.Branch:
		far := n
		far.place += i.A
		return []stands{n, far}
	}
	return []stands{n}
}

// checkMoments holds what is answered of a row against all its runs.
func checkMoments(t *testing.T, l []api.Instr) {
	t.Helper()
	match, _ := nest.Match(l)
	first, last := moments(l, match, 0, len(l)-1)
	worst, e := Worst(l)
	best, f := Best(l)
	if worst != last+1 || best != first+1 || e != api.OK || f != api.OK {
		t.Errorf("%s: Worst %d, %d, Best %d, %d; all runs take from %d to %d", show(l), worst, e, best, f, first+1, last+1)
	}
	sections, _ := Sections(l)
	for p, i := range l {
		if i.Op != op.Lock {
			continue
		}
		_, last := moments(l, match, p+1, match[p])
		if len(sections) == 0 || sections[0] != (Section{i.A, last + 1}) {
			t.Errorf("%s: the sections from %d on are %v; all runs take up to %d", show(l), p, sections, last+1)
			return
		}
		sections = sections[1:]
	}
	if len(sections) > 0 {
		t.Errorf("%s: there are sections more: %v", show(l), sections)
	}
}

// checkRow holds all that is answered of a row against the chapter's words.
func checkRow(t *testing.T, l []api.Instr) {
	t.Helper()
	if e := refusal(l); e != api.OK {
		checkError(t, l, e)
		return
	}
	most := wordsOf(l, true)
	worst, e := Worst(l)
	if want, err := most.steps(); worst != want || e != err {
		t.Errorf("Worst(%s) = %d, %d, not %d, %d", show(l), worst, e, want, err)
	}
	best, e := Best(l)
	if want, err := wordsOf(l, false).steps(); best != want || e != err {
		t.Errorf("Best(%s) = %d, %d, not %d, %d", show(l), best, e, want, err)
	}
	sections, e := Sections(l)
	if want, err := most.sections(); !slices.Equal(sections, want) || e != err {
		t.Errorf("Sections(%s) = %v, %d, not %v, %d", show(l), sections, e, want, err)
	}
}

// checkError asks of all three calls for an error, and for nothing beside it.
func checkError(t *testing.T, l []api.Instr, want api.Errno) {
	t.Helper()
	if n, e := Worst(l); n != 0 || e != want {
		t.Errorf("Worst(%s) = %d, %d, not 0, %d", show(l), n, e, want)
	}
	if n, e := Best(l); n != 0 || e != want {
		t.Errorf("Best(%s) = %d, %d, not 0, %d", show(l), n, e, want)
	}
	if s, e := Sections(l); len(s) != 0 || e != want {
		t.Errorf("Sections(%s) = %v, %d, not none, %d", show(l), s, e, want)
	}
}

// checkSteps asks for Worst and Best of a row, End behind it, and for the block and the length of each section.
func checkSteps(t *testing.T, s string, worst, best int, sections ...int) {
	t.Helper()
	l := row(strings.TrimPrefix(s+", END", ", "))
	if n, e := Worst(l); n != worst || e != api.OK {
		t.Errorf("Worst(%s) = %d, %d, not %d", show(l), n, e, worst)
	}
	if n, e := Best(l); n != best || e != api.OK {
		t.Errorf("Best(%s) = %d, %d, not %d", show(l), n, e, best)
	}
	var want []Section
	for pair := range slices.Chunk(sections, 2) {
		want = append(want, Section{pair[0], pair[1]})
	}
	if got, e := Sections(l); !slices.Equal(got, want) || e != api.OK {
		t.Errorf("Sections(%s) = %v, %d, not %v", show(l), got, e, want)
	}
	checkRow(t, l)
}

// checkBig asks for a row of which Worst is refused, End behind it, and for what Best answers: 0, if that is refused, too.
func checkBig(t *testing.T, s string, best int) {
	t.Helper()
	l := row(s + ", END")
	want := api.OK
	if best == 0 {
		want = api.ErrBig
	}
	if n, e := Worst(l); n != 0 || e != api.ErrBig {
		t.Errorf("Worst(%s) = %d, %d", show(l), n, e)
	}
	if n, e := Best(l); n != best || e != want {
		t.Errorf("Best(%s) = %d, %d, not %d, %d", show(l), n, e, best, want)
	}
	if got, e := Sections(l); len(got) != 0 || e != api.ErrBig {
		t.Errorf("Sections(%s) = %v, %d", show(l), got, e)
	}
	checkRow(t, l)
}

// P9.1: the chapter's example.
func TestExample(t *testing.T) {
	checkSteps(t, "LOOP 3, PUSH 1, DROP, NEXT", 11, 11)
}

// P9.1, P9.2: a row of End alone.
func TestEndAlone(t *testing.T) {
	checkSteps(t, "", 1, 1)
}

// P9.1: one step for each instruction that has neither a jump nor a loop, of all operations.
func TestPlainRows(t *testing.T) {
	checkSteps(t, "PUSH -5", 2, 2)
	checkSteps(t, "PUSH -5, DUP, SWAP, TWO 1, NEG, OUT 15", 7, 7)
	checkSteps(t, "IN 0, IN 1, TWO 11, NOT, CAST, STOREL 7, LOADL 7, STORER 7, LOADR 7, DROP", 11, 11)
	checkSteps(t, many(4, yes)+"BOTH, EITHER, BOTH, DROP", 17, 17)
	checkSteps(t, "LOCK 1, GET 1 7, PUT 1 0, UNLOCK 1", 5, 5, 1, 3)
	for n := range 100 {
		checkSteps(t, strings.TrimSuffix(many(n, "PUSH 1, DROP"), ", "), 2*n+1, 2*n+1)
	}
}

// P9.1: a Jump to the next instruction, and farther.
func TestJumps(t *testing.T) {
	checkSteps(t, "JUMP 0", 2, 2)
	checkSteps(t, "JUMP 0, JUMP 0, JUMP 0", 4, 4)
	checkSteps(t, yes+", BRANCH 1, JUMP 1, JUMP 0", 6, 6)
	checkSteps(t, yes+", BRANCH 1, JUMP 4, "+many(3, "JUMP 0")+"JUMP 0", 9, 6)
	checkSteps(t, yes+", BRANCH 5, "+many(4, "JUMP 0")+"JUMP 1, JUMP 0", 10, 6)
	checkSteps(t, yes+", BRANCH 2, JUMP 0, JUMP 1, JUMP 0", 7, 6)
}

// P9.1: a Branch to the next instruction, and farther; the way that leads on and the one that is jumped, each the longer one once.
func TestBranches(t *testing.T) {
	checkSteps(t, yes+", BRANCH 0", 5, 5)
	checkSteps(t, yes+", BRANCH 0, JUMP 0", 6, 6)
	checkSteps(t, yes+", BRANCH 1, JUMP 0", 6, 5)
	for n := 1; n < 190; n++ {
		part := strings.TrimSuffix(many(n, "JUMP 0"), ", ")
		checkSteps(t, around(part), 4+n+1, 5)
	}
	for a := 1; a < 9; a++ {
		for b := 1; b < 9; b++ {
			checkSteps(t, either(taking(a), taking(b)), 4+max(a+1, b)+1, 4+min(a+1, b)+1)
		}
	}
}

// P9.1: a choice is made by all that comes behind it, not by the next instructions; one behind the other and in one another.
func TestBranchesInOneAnother(t *testing.T) {
	checkSteps(t, around("JUMP 0")+", "+around("JUMP 0, JUMP 0"), 4+1+4+2+1, 4+4+1)
	checkSteps(t, around(around("JUMP 0")), 4+4+1+1, 4+1)
	checkSteps(t, either(around(taking(9)), taking(7)), 4+4+9+1+1, 4+4+1+1)
	checkSteps(t, either(around(taking(9)), taking(3)), 4+4+9+1+1, 4+3+1)
	checkSteps(t, either(taking(2), either(taking(1), taking(40))), 4+4+40+1, 4+2+1+1)
	checkSteps(t, either(taking(2)+", "+taking(9), around(taking(20))), 4+4+20+1, 4+4+1)
	checkSteps(t, either(taking(100), around(taking(300))+", "+around(taking(50))), 4+4+300+4+50+1, 4+8+1)
}

// P9.1: loops of one round, of several and of 1000, empty ones and others.
func TestLoops(t *testing.T) {
	checkSteps(t, "LOOP 1, NEXT", 3, 3)
	checkSteps(t, "LOOP 1000, NEXT", 1002, 1002)
	checkSteps(t, "LOOP 1000, JUMP 0, NEXT", 2002, 2002)
	for _, n := range []int{1, 2, 3, 7, 999, 1000} {
		for k := range 20 {
			steps := 1 + n*(k+1)
			checkSteps(t, line("LOOP", n)+", "+many(k, "JUMP 0")+"NEXT", steps+1, steps+1)
			checkSteps(t, "JUMP 0, "+line("LOOP", n)+", "+many(k, "JUMP 0")+"NEXT, LOOP 2, NEXT, JUMP 0", 1+steps+3+1+1, 1+steps+3+1+1)
		}
	}
}

// P9.1: a loop in a loop, once and often.
func TestLoopsInLoops(t *testing.T) {
	checkSteps(t, "LOOP 3, LOOP 4, NEXT, NEXT", 1+3*(1+4+1)+1, 1+3*(1+4+1)+1)
	checkSteps(t, "LOOP 3, JUMP 0, LOOP 4, JUMP 0, JUMP 0, NEXT, LOOP 5, NEXT, NEXT, JUMP 0", 1+3*(1+1+4*3+1+5+1)+2, 1+3*(1+1+4*3+1+5+1)+2)
	checkSteps(t, "LOOP 1000, LOOP 1000, NEXT, NEXT", 1+1000*1002+1, 1+1000*1002+1)
	checkSteps(t, "LOOP 20, LOOP 30, LOOP 40, NEXT, NEXT, NEXT", 1+20*(1+30*(1+40+1)+1)+1, 1+20*(1+30*(1+40+1)+1)+1)
	checkSteps(t, many(99, "LOOP 1")+many(98, "NEXT")+"NEXT", 2*99+1, 2*99+1)
	steps := 0
	for range 15 {
		steps = 1 + 2*(steps+1)
	}
	checkSteps(t, many(15, "LOOP 2")+many(14, "NEXT")+"NEXT", steps+1, steps+1)
}

// P9.1: a Branch and a Jump in a loop, to its Next too: what is left out is left out in each round.
func TestBranchesInLoops(t *testing.T) {
	checkSteps(t, "LOOP 5, JUMP 0, NEXT", 1+5*2+1, 1+5*2+1)
	checkSteps(t, "LOOP 5, "+yes+", BRANCH 0, NEXT", 1+5*5+1, 1+5*5+1)
	checkSteps(t, "LOOP 5, "+around("PUSH 1, DROP")+", NEXT", 1+5*7+1, 1+5*5+1)
	checkSteps(t, "LOOP 5, "+around("PUSH 1, DROP")+", JUMP 0, NEXT", 1+5*8+1, 1+5*6+1)
	checkSteps(t, "LOOP 1000, "+either(taking(7), taking(2))+", NEXT", 1+1000*(4+8+1)+1, 1+1000*(4+2+1)+1)
	checkSteps(t, "LOOP 3, LOOP 4, "+around("JUMP 0")+", NEXT, "+around("JUMP 0")+", NEXT", 1+3*(1+4*6+5+1)+1, 1+3*(1+4*5+4+1)+1)
	checkSteps(t, "LOOP 3, "+around("LOOP 4, JUMP 0, NEXT")+", NEXT", 1+3*(4+1+4*2+1)+1, 1+3*(4+1)+1)
	checkSteps(t, "LOOP 3, "+yes+", BRANCH 1, JUMP 2, JUMP 0, JUMP 0, NEXT", 1+3*7+1, 1+3*6+1)
}

// P9.1: a Branch around a whole loop, and around several; a loop on either side of a choice.
func TestWaysThatLeaveLoopsOut(t *testing.T) {
	checkSteps(t, around("LOOP 9, NEXT"), 4+10+1, 5)
	checkSteps(t, around("LOOP 1000, LOOP 1000, NEXT, NEXT"), 4+1002001+1, 5)
	checkSteps(t, around("LOOP 9, JUMP 0, NEXT, LOOP 2, NEXT"), 4+19+3+1, 5)
	checkSteps(t, either("LOOP 9, NEXT", "LOOP 8, JUMP 0, NEXT"), 4+17+1, 4+11+1)
	checkSteps(t, either("LOOP 9, NEXT", taking(5)), 4+11+1, 4+5+1)
	checkSteps(t, either(taking(50), "LOOP 9, NEXT"), 4+51+1, 4+10+1)
	checkSteps(t, around("LOOP 9, "+around("LOOP 3, NEXT")+", NEXT"), 4+1+9*9+1, 5)
}

// P9.1, P9.2: locks in one another, with the block and the length of each, in order.
func TestLocks(t *testing.T) {
	for block := range 8 {
		checkSteps(t, line("LOCK", block)+", "+line("UNLOCK", block), 3, 3, block, 1)
		checkSteps(t, "JUMP 0, "+lockedIn(block, "JUMP 0")+", JUMP 0", 6, 6, block, 2)
	}
	checkSteps(t, "LOCK 1, JUMP 0, LOCK 4, JUMP 0, JUMP 0, UNLOCK 4, JUMP 0, UNLOCK 1", 9, 9, 1, 7, 4, 3)
	checkSteps(t, "LOCK 1, LOCK 4, UNLOCK 4, UNLOCK 1", 5, 5, 1, 3, 4, 1)
	checkSteps(t, "LOCK 0, LOCK 1, LOCK 2, LOCK 3, LOCK 4, LOCK 5, LOCK 6, LOCK 7, UNLOCK 7, UNLOCK 6, UNLOCK 5, UNLOCK 4, UNLOCK 3, UNLOCK 2, UNLOCK 1, UNLOCK 0", 17, 17,
		0, 15, 1, 13, 2, 11, 3, 9, 4, 7, 5, 5, 6, 3, 7, 1)
	checkSteps(t, "LOCK 2, GET 2 1, PUSH 1, TWO 1, PUT 2 1, UNLOCK 2, IN 0, OUT 0", 9, 9, 2, 5)
}

// P9.1, P9.2: locks one behind the other are in one another; behind an Unlock there is none (nest.Locks).
func TestLocksBehindLocks(t *testing.T) {
	checkSteps(t, "LOCK 0, LOCK 2, JUMP 0, UNLOCK 2, UNLOCK 0", 6, 6, 0, 4, 2, 2)
	checkSteps(t, "LOCK 3, JUMP 0, LOCK 5, LOCK 6, JUMP 0, UNLOCK 6, UNLOCK 5, JUMP 0, UNLOCK 3", 10, 10, 3, 8, 5, 4, 6, 2)
	checkError(t, row("LOCK 0, UNLOCK 0, LOCK 2, UNLOCK 2, END"), api.ErrLock)
	checkError(t, row("LOCK 0, LOCK 1, UNLOCK 1, LOCK 2, UNLOCK 2, UNLOCK 0, END"), api.ErrLock)
	checkError(t, row(either(lockedIn(1, "JUMP 0"), lockedIn(2, "JUMP 0"))+", END"), api.ErrLock)
}

// P9.1, P9.2: a lock around loops.
func TestLocksAroundLoops(t *testing.T) {
	checkSteps(t, "LOCK 2, LOOP 10, JUMP 0, NEXT, UNLOCK 2", 24, 24, 2, 22)
	checkSteps(t, "LOCK 2, LOOP 1, NEXT, UNLOCK 2", 5, 5, 2, 3)
	checkSteps(t, "LOCK 2, LOOP 3, LOOP 4, NEXT, NEXT, LOOP 5, NEXT, UNLOCK 2", 1+19+6+2, 1+19+6+2, 2, 26)
	checkSteps(t, "LOOP 7, NEXT, LOCK 2, LOOP 10, GET 2 0, DROP, NEXT, LOCK 3, LOOP 4, NEXT, UNLOCK 3, UNLOCK 2, LOOP 5, NEXT", 8+1+31+1+5+1+1+6+1, 8+1+31+1+5+1+1+6+1, 2, 31+1+5+1+1, 3, 6)
	checkSteps(t, lockedIn(0, "LOOP 1000, LOOP 1000, NEXT, NEXT"), 1002004, 1002004, 0, 1002002)
}

// P9.1, P9.2: a Branch and a Jump in a lock, to its Unlock too; a section is the most steps, whatever Best is.
func TestBranchesInLocks(t *testing.T) {
	checkSteps(t, lockedIn(3, "JUMP 0"), 4, 4, 3, 2)
	checkSteps(t, lockedIn(3, yes+", BRANCH 0"), 7, 7, 3, 5)
	checkSteps(t, lockedIn(3, around("PUSH 1, DROP")), 9, 7, 3, 7)
	checkSteps(t, lockedIn(3, either(taking(7), taking(3))), 1+4+8+1+1, 1+4+3+1+1, 3, 13)
	checkSteps(t, lockedIn(3, yes+", BRANCH 1, JUMP 2, JUMP 0, JUMP 0"), 9, 8, 3, 7)
	checkSteps(t, lockedIn(3, around("LOOP 9, NEXT")+", JUMP 0"), 1+4+10+1+1+1, 1+4+1+1+1, 3, 16)
	checkSteps(t, lockedIn(3, "LOOP 6, "+around("JUMP 0")+", NEXT"), 1+1+36+1+1, 1+1+30+1+1, 3, 38)
	checkSteps(t, lockedIn(3, around("JUMP 0")+", "+lockedIn(5, around("JUMP 0, JUMP 0"))+", JUMP 0"), 1+5+1+6+1+1+1+1, 1+4+1+4+1+1+1+1, 3, 15, 5, 7)
}

// P9.1, P9.2: a Branch around a lock: Best leaves it out, its section is told; also where Worst's way is another one.
func TestBranchesAroundLocks(t *testing.T) {
	checkSteps(t, around("LOCK 3, UNLOCK 3"), 4+2+1, 5, 3, 1)
	checkSteps(t, around(lockedIn(3, "JUMP 0"))+", JUMP 0", 4+3+1+1, 6, 3, 2)
	checkSteps(t, either(lockedIn(3, "JUMP 0"), taking(50)), 4+50+1, 4+4+1, 3, 2)
	checkSteps(t, either(taking(50), lockedIn(3, "JUMP 0")), 4+51+1, 4+3+1, 3, 2)
	checkSteps(t, lockedIn(1, around(lockedIn(3, taking(9)))), 1+4+11+1+1, 1+4+1+1, 1, 16, 3, 10)
	checkSteps(t, lockedIn(1, either(lockedIn(3, around(taking(4))), taking(30))), 1+34+1+1, 1+4+6+1+1+1, 1, 35, 3, 9)
}

// P9.1: a Worst that is just 2^20, of rows with and without a choice, and one that is 1 below it.
func TestStepsUpToTheLimit(t *testing.T) {
	checkSteps(t, taking(limit-1), limit, limit)
	checkSteps(t, taking(limit-2), limit-1, limit-1)
	checkSteps(t, "LOOP 1000, LOOP 1000, NEXT, NEXT, LOOP 1000, "+many(45, "JUMP 0")+"NEXT, LOOP 572, NEXT", 1048576, 1048576)
	checkSteps(t, around(taking(limit-5)), limit, 5)
	checkSteps(t, either(taking(limit-6), taking(9)), limit, 4+9+1)
	checkSteps(t, either(taking(9), taking(limit-5)), limit, 4+9+1+1)
	checkSteps(t, lockedIn(6, taking(limit-3)), limit, limit, 6, limit-2)
	checkSteps(t, lockedIn(6, around(taking(limit-7))), limit, 7, 6, limit-2)
	checkSteps(t, "JUMP 0, "+lockedIn(6, taking(limit-4)), limit, limit, 6, limit-3)
	checkSteps(t, "LOOP 1, "+taking(limit-3)+", NEXT", limit, limit)
}

// P9.1, P9.2: a Worst that is above 2^20, by 1 and by more, in loops in one another: with it Best is, or is not.
func TestStepsBeyondTheLimit(t *testing.T) {
	for _, n := range []int{limit, limit + 1, limit + 2, 2*limit - 2, 2*limit - 1, 2 * limit} {
		checkBig(t, taking(n), 0)
		checkBig(t, "LOOP 1, "+taking(n)+", NEXT", 0)
		checkBig(t, lockedIn(6, taking(n)), 0)
		checkBig(t, around(taking(n)), 5)
		checkBig(t, lockedIn(6, around(taking(n))), 7)
		checkBig(t, lockedIn(6, "JUMP 0")+", "+around(taking(n)), 8)
		checkBig(t, either(taking(n), taking(n+1)), 0)
		checkBig(t, either(taking(n), taking(limit-4)), 0)
		checkBig(t, either(taking(n), taking(limit-5)), limit)
		checkBig(t, either(taking(limit-6), taking(n)), limit)
		checkBig(t, either(taking(limit-5), taking(n)), 0)
		checkBig(t, "LOOP 10, "+around(taking(n))+", NEXT", 1+10*5+1)
	}
	checkBig(t, taking(limit/2)+", "+taking(limit/2), 0)
	checkBig(t, around(taking(limit-5))+", JUMP 0", 6)
	checkBig(t, "LOOP 1000, "+around("LOOP 1000, "+around("JUMP 0")+", NEXT")+", NEXT", 1+1000*5+1)
	checkBig(t, "LOOP 1000, LOOP 1000, LOOP 1000, NEXT, NEXT, NEXT", 0)
}

// P9.1: as many loops in one another as a row has room for: numbers beyond 64 bits are not below the limit again.
func TestLoopsThatAreDeep(t *testing.T) {
	for _, rounds := range []int{2, 3, 16, 64, 256, 512, 999, 1000} {
		for deep := 1; deep <= 97; deep++ {
			nested := many(deep, line("LOOP", rounds)) + many(deep-1, "NEXT") + "NEXT"
			checkRow(t, row(nested+", END"))
			l := row(around(nested) + ", END")
			checkRow(t, l)
			if n, e := Best(l); n != 5 || e != api.OK {
				t.Errorf("%d loops of %d, or none: Best %d, %d", deep, rounds, n, e)
			}
		}
	}
	checkBig(t, many(99, "LOOP 1000")+many(98, "NEXT")+"NEXT", 0)
	checkBig(t, either(many(40, "LOOP 1000")+many(39, "NEXT")+"NEXT", many(40, "LOOP 999")+many(39, "NEXT")+"NEXT"), 0)
}

// errorsOfLocks is rows that nest.Locks refuses, by its errors.
func errorsOfLocks() map[api.Errno][]string {
	return map[api.Errno][]string{
		api.ErrNest: {"LOOP 3, END", "NEXT, END", "LOCK 1, END", "UNLOCK 1, END", "LOCK 1, UNLOCK 2, END", "LOOP 2, LOCK 1, NEXT, UNLOCK 1, END", "JUMP 0", "END, JUMP 0", "END, END", "LOOP 2, END, NEXT, END"},
		api.ErrJump: {"JUMP 1, END", yes + ", BRANCH 1, END", "JUMP 1, LOOP 2, NEXT, END", "LOOP 2, JUMP 1, NEXT, END", "LOCK 2, JUMP 1, UNLOCK 2, END"},
		api.ErrLock: {"GET 1 1, DROP, END", "PUSH 1, PUT 1 1, END", "LOCK 2, GET 1 1, DROP, UNLOCK 2, END", "LOOP 2, LOCK 1, UNLOCK 1, NEXT, END", "LOCK 2, LOCK 1, UNLOCK 1, UNLOCK 2, END", "LOCK 2, LOCK 2, UNLOCK 2, UNLOCK 2, END", "LOCK 1, UNLOCK 1, LOCK 2, UNLOCK 2, END"},
	}
}

// errorsOfStacks is rows that types.Stacks alone refuses, by its errors.
func errorsOfStacks() map[api.Errno][]string {
	return map[api.Errno][]string{
		api.ErrJump:  {"JUMP 1, DUP, END", "JUMP 2, JUMP 0, JUMP 0, END", "LOOP 2, JUMP 1, JUMP 0, NEXT, END"},
		api.ErrType:  {"PUSH 1, CAST, END", "PUSH 1, BRANCH 0, END", yes + ", BRANCH 1, PUSH 1, END", "LOOP 2, PUSH 1, NEXT, END", yes + ", NEG, END"},
		api.ErrStack: {"DUP, END", "DROP, END", "PUSH 1, TWO 1, END", "BRANCH 0, END", "LOCK 1, PUT 1 1, UNLOCK 1, END", many(17, "PUSH 1") + "END"},
	}
}

// P9.1, P9.2, R3: rows that nest.Locks refuses, with each of its errors.
func TestRowsThatLocksRefuses(t *testing.T) {
	for e, rows := range errorsOfLocks() {
		for _, s := range rows {
			checkError(t, row(s), e)
		}
	}
	idle, end := api.Instr{Op: op.Jump}, api.Instr{Op: op.End}
	checkError(t, nil, api.ErrArg)
	checkError(t, []api.Instr{}, api.ErrArg)
	checkError(t, append(slices.Repeat([]api.Instr{idle}, 200), end), api.ErrArg)
	checkError(t, append(slices.Repeat([]api.Instr{idle}, 5000), end), api.ErrArg)
	checkSteps(t, strings.TrimSuffix(many(199, "JUMP 0"), ", "), 200, 200)
	for _, i := range wrongOnes() {
		checkError(t, []api.Instr{i, end}, api.ErrArg)
		checkError(t, []api.Instr{idle, i, idle, end}, api.ErrArg)
		checkError(t, []api.Instr{i}, api.ErrArg)
		checkError(t, []api.Instr{end, i}, api.ErrArg)
	}
}

// wrongOnes is instructions that are not right.
func wrongOnes() []api.Instr {
	var wrong []api.Instr
	for o := -1; o <= 30; o++ {
		for _, a := range []int{bottom, -1, 0, 1, 7, 8, 12, 13, 15, 16, 199, 200, 1000, 1001, limit, top} {
			for _, b := range []int{-1, 0, 8, top} {
				if i := (api.Instr{Op: o, A: a, B: b}); !op.Right(i) {
					wrong = append(wrong, i)
				}
			}
		}
	}
	return wrong
}

// P9.1, P9.2, R3: rows that types.Stacks refuses, with each of its errors.
func TestRowsThatStacksRefuses(t *testing.T) {
	for e, rows := range errorsOfStacks() {
		for _, s := range rows {
			l := row(s)
			if _, f := nest.Locks(l); f != api.OK {
				t.Fatalf("%s is refused by nest.Locks: %d", s, f)
			}
			checkError(t, l, e)
		}
	}
}

// P9.1, P9.2, R2: nest.Locks' error goes ahead of that of types.Stacks, wherever either stands, and both ahead of ErrBig.
func TestErrorsInOrder(t *testing.T) {
	for _, s := range []string{"DUP, LOCK 2, LOCK 1, UNLOCK 1, UNLOCK 2, END", "LOCK 2, LOCK 1, UNLOCK 1, UNLOCK 2, DUP, END", "PUSH 1, CAST, GET 0 0, DROP, END", "JUMP 1, DUP, GET 0 0, END"} {
		checkError(t, row(s), api.ErrLock)
	}
	for _, s := range []string{"DUP, JUMP 9, END", "JUMP 9, DUP, END", "GET 0 0, CAST, JUMP 9, END"} {
		checkError(t, row(s), api.ErrJump)
	}
	for _, s := range []string{"DUP, LOOP 2, END", "LOOP 2, DUP, END", "JUMP 9, DUP, NEXT, END"} {
		checkError(t, row(s), api.ErrNest)
	}
	great := row("LOOP 1000, LOOP 1000, LOOP 1000, NEXT, NEXT, NEXT, JUMP 0")
	checkError(t, append(slices.Clone(great), api.Instr{Op: op.End}), api.ErrBig)
	for _, all := range []map[api.Errno][]string{errorsOfLocks(), errorsOfStacks()} {
		for e, rows := range all {
			for _, s := range rows {
				checkError(t, append(slices.Clone(great), row(s)...), e)
			}
		}
	}
	checkError(t, append(slices.Clone(great), api.Instr{Op: op.End, A: 1}), api.ErrArg)
}

// checkStraight asks for Straight of a row.
func checkStraight(t *testing.T, l []api.Instr, want bool) {
	t.Helper()
	if got := Straight(l); got != want {
		t.Errorf("Straight(%s) = %t", show(l), got)
	}
}

// P9.3: rows with a Jump or a Branch of 0 and above 0, at any place, in loops and locks too.
func TestStraight(t *testing.T) {
	for _, s := range []string{"END", "JUMP 0, END", yes + ", BRANCH 0, END", "LOOP 1000, JUMP 0, NEXT, END", "LOCK 7, " + yes + ", BRANCH 0, GET 7 7, DROP, UNLOCK 7, END", "PUSH 9, OUT 9, END"} {
		checkStraight(t, row(s), true)
	}
	for _, s := range []string{around("JUMP 0") + ", END", yes + ", BRANCH 1, JUMP 1, JUMP 0, END", "LOOP 2, " + around("JUMP 0") + ", NEXT, END", "LOCK 1, " + around("LOOP 2, NEXT") + ", UNLOCK 1, END"} {
		checkStraight(t, row(s), false)
	}
}

// P9.3: of any row: not whole, refused by the stacks or the locks, empty, longer than a task may be.
func TestStraightOfAnyRow(t *testing.T) {
	checkStraight(t, nil, true)
	checkStraight(t, []api.Instr{}, true)
	for _, s := range []string{"NEXT", "LOOP 3", "LOCK 1, NEXT, END, END", "DUP", "GET 1 1", "LOOP 1000, LOOP 1000, LOOP 1000, NEXT, NEXT, NEXT, END", "JUMP 0", "BRANCH 0"} {
		checkStraight(t, row(s), true)
		checkStraight(t, append(row(s), api.Instr{Op: op.Jump, A: 1}), false)
		checkStraight(t, append(row("BRANCH 1"), row(s)...), false)
	}
	long := slices.Repeat([]api.Instr{{Op: op.Jump}, {Op: op.Branch}}, 500)
	checkStraight(t, long, true)
	long[999].A = 1
	checkStraight(t, long, false)
}

// P9.3: of each instruction, right or not: just a Jump and a Branch with A above 0, at the first, a middle and the last place.
func TestStraightOfEachInstruction(t *testing.T) {
	idle := api.Instr{Op: op.Jump}
	for o := -2; o <= 40; o++ {
		for _, a := range []int{bottom, -200, -1, 0, 1, 2, 199, 200, 201, limit, top} {
			for _, b := range []int{-1, 0, 1} {
				i := api.Instr{Op: o, A: a, B: b}
				want := !(o == op.Jump || o == op.Branch) || a <= 0
				checkStraight(t, []api.Instr{i}, want)
				checkStraight(t, []api.Instr{i, idle, idle}, want)
				checkStraight(t, []api.Instr{idle, i, idle}, want)
				checkStraight(t, []api.Instr{idle, idle, i}, want)
			}
		}
	}
}

// pieces is parts of which small rows are made.
func pieces() [][]api.Instr {
	var all [][]api.Instr
	for _, s := range []string{"JUMP 0", "JUMP 1", "JUMP 2", yes + ", BRANCH 0", yes + ", BRANCH 1", yes + ", BRANCH 2", yes + ", BRANCH 3", yes + ", BRANCH 6", "LOOP 1", "LOOP 3", "NEXT", "LOCK 0", "UNLOCK 0", "LOCK 1", "UNLOCK 1"} {
		all = append(all, row(s))
	}
	return all
}

// closed is a row, and what closes the regions that are open at its end.
func closed(l []api.Instr) []api.Instr {
	var closers []api.Instr
	for _, i := range l {
		switch i.Op {
		case op.Loop:
			closers = append(closers, api.Instr{Op: op.Next})
		case op.Lock:
			closers = append(closers, api.Instr{Op: op.Unlock, A: i.A})
		case op.Next, op.Unlock:
			closers = closers[:max(0, len(closers)-1)]
		}
	}
	slices.Reverse(closers)
	return slices.Concat(l, closers)
}

// P9.1, P9.2: all rows of up to four pieces, their regions closed or not: the chapter's words written out again, and all runs that there can be.
func TestAllShortRows(t *testing.T) {
	ran, parts, end := 0, pieces(), api.Instr{Op: op.End}
	var longer func(l []api.Instr, more int)
	longer = func(l []api.Instr, more int) {
		checkRow(t, append(slices.Clone(l), end))
		if whole := append(closed(l), end); refusal(whole) == api.OK {
			checkRow(t, whole)
			checkMoments(t, whole)
			ran++
		}
		if more == 0 {
			return
		}
		for _, part := range parts {
			longer(append(slices.Clone(l), part...), more-1)
		}
	}
	longer(nil, 4)
	if ran < 1500 {
		t.Errorf("just %d rows ran", ran)
	}
}

// maker makes rows that run; each Branch asks an input of its own, if there are any left, or else a retained number that is another one each time.
type maker struct {
	r       *rand.Rand
	rounds  int
	choices int
	free    bool
}

// truth is instructions that lay a truth on the stack.
func (m *maker) truth() string {
	if m.free {
		return []string{"LOADR 0, PUSH 1, TWO 1, DUP, STORER 0, PUSH 3, TWO 5, PUSH 0, TWO 12", "LOADR 1, IN 1, TWO 1, DUP, STORER 1, IN 2, TWO 11", "IN 3, LOADR 0, TWO 11, NOT"}[m.r.Intn(3)]
	}
	m.choices++
	return line("IN", m.choices-1) + ", PUSH 0, TWO 12"
}

func (m *maker) may() bool { return m.free || m.choices < 5 }

// part is a few pieces, with up to deep loops and choices in one another; at least one instruction.
func (m *maker) part(deep int) string {
	parts := []string{[]string{"JUMP 0", "PUSH 1, DROP", "IN 0, OUT 0"}[m.r.Intn(3)]}
	for range m.r.Intn(4) {
		switch kind := m.r.Intn(6); {
		case deep > 0 && kind < 2:
			parts = append(parts, line("LOOP", 1+m.r.Intn(m.rounds))+", "+m.loopPart(deep-1)+"NEXT")
		case deep > 0 && kind < 5 && m.may():
			parts = append(parts, m.choice(m.part(deep-1), deep))
		default:
			parts = append(parts, taking(1+m.r.Intn(9)))
		}
	}
	return strings.Join(parts, ", ")
}

func (m *maker) loopPart(deep int) string {
	if m.r.Intn(4) == 0 {
		return ""
	}
	return m.part(deep) + ", "
}

// choice is a part, or another one, or nothing, by a truth.
func (m *maker) choice(part string, deep int) string {
	truth := m.truth()
	switch m.r.Intn(3) {
	case 0:
		return truth + ", " + line("BRANCH", count(part)) + ", " + part
	case 1:
		other := m.part(deep - 1)
		return truth + ", " + line("BRANCH", count(other)+1) + ", " + other + ", " + line("JUMP", count(part)) + ", " + part
	}
	other := m.part(deep - 1)
	return truth + ", " + line("BRANCH", count(part)+1) + ", " + part + ", " + line("JUMP", count(other)) + ", " + other
}

// locked is a part with locks from that block on, that rise, in one another; some are chosen, or not, by a truth.
func (m *maker) locked(from, deep int) string {
	if from > 7 || m.r.Intn(4) == 0 {
		return m.part(deep)
	}
	block := from + m.r.Intn(8-from)
	within := lockedIn(block, m.locked(block+1, deep))
	if m.r.Intn(3) == 0 && m.may() {
		within = m.choice(within, 1)
	}
	return m.part(1) + ", " + within + ", " + m.part(1)
}

// some is a row that runs, of at most 200 instructions, and how many inputs its choices ask; rounds is how many a loop has at most.
func some(r *rand.Rand, rounds int, free bool) ([]api.Instr, int) {
	for {
		m := maker{r: r, rounds: rounds, free: free}
		s := m.part(2) + ", " + m.locked(0, 3) + ", " + m.part(2) + ", END"
		if m.choices <= 6 && count(s) <= 200 {
			return row(s), m.choices
		}
	}
}

// P9.1, P9.2: long rows, with loops of up to 1000 rounds, against the chapter's words; what is refused for its steps is among them, and what is not.
func TestLongRows(t *testing.T) {
	r, seen := rand.New(rand.NewSource(9)), map[[2]api.Errno]int{}
	for k := range 6000 {
		l, _ := some(r, []int{3, 40, 1000}[k%3], k%2 == 0)
		checkRow(t, l)
		_, e := Worst(l)
		_, f := Best(l)
		seen[[2]api.Errno{e, f}]++
	}
	for _, pair := range [][2]api.Errno{{api.OK, api.OK}, {api.ErrBig, api.OK}, {api.ErrBig, api.ErrBig}} {
		if seen[pair] < 100 {
			t.Errorf("Worst and Best answered %v %d times", pair, seen[pair])
		}
	}
}

// P9.1, P9.2: long rows of few rounds, against all runs that there can be.
func TestLongRowsByAllRuns(t *testing.T) {
	r := rand.New(rand.NewSource(99))
	for range 300 {
		l, _ := some(r, 3, r.Intn(2) == 0)
		if n, _ := Worst(l); n < 1000 {
			checkMoments(t, l)
		}
	}
}

// took is what a run took: its steps, and those from each Lock to its Unlock.
type took struct {
	steps int
	locks map[int]int
}

// run is one run of a machine, to its end.
func run(t *testing.T, m *vm.Machine, in [16]int, mem *vm.Memory) took {
	t.Helper()
	x, locked := took{locks: map[int]int{}}, map[int]int{}
	m.Start(in)
	for m.Running() {
		event, e := m.Step(mem)
		if e != api.OK {
			t.Fatalf("step %d: %d", x.steps, e)
		}
		x.steps++
		switch event.Kind {
		case vm.Locked:
			locked[event.Block] = x.steps
		case vm.Freed:
			x.locks[event.Block] = x.steps - locked[event.Block]
		}
	}
	return x
}

// promised is what is answered of a row.
type promised struct {
	worst, best int
	sections    map[int]int
}

func promisedOf(t *testing.T, l []api.Instr) promised {
	t.Helper()
	worst, e := Worst(l)
	best, f := Best(l)
	sections, g := Sections(l)
	if e != api.OK || f != api.OK || g != api.OK {
		t.Fatalf("%s: %d, %d, %d", show(l), e, f, g)
	}
	p := promised{worst, best, map[int]int{}}
	for _, s := range sections {
		p.sections[s.Block] = s.Len
	}
	return p
}

// holds asks of a run whether it took no more, and no less, than is answered.
func (p promised) holds(t *testing.T, l []api.Instr, x took) {
	t.Helper()
	if x.steps < p.best || x.steps > p.worst {
		t.Errorf("%s: a run took %d steps; Best %d, Worst %d", show(l), x.steps, p.best, p.worst)
	}
	for block, n := range x.locks {
		if n > p.sections[block] {
			t.Errorf("%s: block %d was locked for %d steps; its section is %d", show(l), block, n, p.sections[block])
		}
	}
}

// P9.4: all runs of a row whose choices hang on an input each: none takes more or less than is answered, and one takes just that.
func TestRunsTakeFromBestToWorst(t *testing.T) {
	r, uneven := rand.New(rand.NewSource(999)), 0
	for range 800 {
		l, choices := some(r, 3, false)
		if n, e := Worst(l); e != api.OK || n > 3000 {
			continue
		}
		p := promisedOf(t, l)
		m, e := vm.New(l)
		if e != api.OK {
			t.Fatalf("%s: %d", show(l), e)
		}
		worst, best, locks := 0, top, map[int]int{}
		for chosen := range 1 << choices {
			var in [16]int
			for k := range choices {
				in[k] = chosen >> k & 1
			}
			x := run(t, m, in, &vm.Memory{})
			p.holds(t, l, x)
			worst, best = max(worst, x.steps), min(best, x.steps)
			for block, n := range x.locks {
				locks[block] = max(locks[block], n)
			}
		}
		if worst != p.worst || best != p.best {
			t.Errorf("%s: all runs take from %d to %d; Best %d, Worst %d", show(l), best, worst, p.best, p.worst)
		}
		for block, n := range p.sections {
			if locks[block] != n {
				t.Errorf("%s: block %d is locked for up to %d steps; its section is %d", show(l), block, locks[block], n)
			}
		}
		if best != worst {
			uneven++
		}
	}
	if uneven < 300 {
		t.Errorf("just %d rows had a Best below Worst", uneven)
	}
}

// P9.4: runs of rows whose choices are other ones from round to round and from run to run.
func TestRunsWithChangingChoices(t *testing.T) {
	r := rand.New(rand.NewSource(9999))
	for range 400 {
		l, _ := some(r, 6, true)
		if n, e := Worst(l); e != api.OK || n > 20000 {
			continue
		}
		p := promisedOf(t, l)
		m, _ := vm.New(l)
		for range 4 {
			in := [16]int{r.Intn(3), r.Intn(5) - 2, r.Intn(5) - 2, r.Intn(9) - 4}
			p.holds(t, l, run(t, m, in, &vm.Memory{}))
		}
	}
}

// P9.4: of a straight row Best and Worst are the same, and each run takes just these; so with each section.
func TestStraightRows(t *testing.T) {
	r, seen := rand.New(rand.NewSource(99999)), 0
	for k := range 6000 {
		l, _ := some(r, []int{3, 60}[k%2], k%4 < 2)
		for p, i := range l {
			if k%3 > 0 && (i.Op == op.Jump || i.Op == op.Branch) {
				l[p].A = 0
			}
		}
		if refusal(l) != api.OK || !Straight(l) {
			continue
		}
		worst, e := Worst(l)
		best, f := Best(l)
		if best != worst || e != f {
			t.Errorf("%s: Worst %d, %d, Best %d, %d", show(l), worst, e, best, f)
		}
		if e != api.OK || worst > 5000 {
			continue
		}
		seen++
		p := promisedOf(t, l)
		m, _ := vm.New(l)
		x := run(t, m, [16]int{r.Intn(2), r.Intn(2), r.Intn(2)}, &vm.Memory{})
		p.holds(t, l, x)
		for block, n := range p.sections {
			if x.locks[block] != n {
				t.Errorf("%s: block %d was locked for %d steps; its section is %d", show(l), block, x.locks[block], n)
			}
		}
	}
	if seen < 1000 {
		t.Errorf("just %d straight rows ran", seen)
	}
}

// P9.4: the runs of a row whose Worst is at the limit, and just there.
func TestRunAtTheLimit(t *testing.T) {
	l := row("IN 0, PUSH 0, TWO 12, " + line("BRANCH", count(lockedIn(4, taking(limit-7)))) + ", " + lockedIn(4, taking(limit-7)) + ", END")
	p := promisedOf(t, l)
	m, _ := vm.New(l)
	long, short := run(t, m, [16]int{0}, &vm.Memory{}), run(t, m, [16]int{1}, &vm.Memory{})
	if long.steps != limit || p.worst != limit || long.locks[4] != limit-6 || p.sections[4] != limit-6 || short.steps != 5 || p.best != 5 {
		t.Errorf("%v: the runs took %v and %v", p, long, short)
	}
}

// R4: neither the row nor the room behind it is changed or kept.
func TestRowIsNotKept(t *testing.T) {
	room := row("LOCK 0, LOCK 3, GET 0 1, DROP, LOOP 2, NEXT, UNLOCK 3, UNLOCK 0, END, DUP, DROP")
	kept := slices.Clone(room)
	l := room[:9]
	Worst(l)
	Best(l)
	Straight(l)
	sections, _ := Sections(l)
	if !slices.Equal(room, kept) {
		t.Errorf("the row handed in is now %s", show(room))
	}
	want := slices.Clone(sections)
	for p := range room {
		room[p] = api.Instr{}
	}
	if !slices.Equal(sections, want) {
		t.Errorf("the sections are now %v, not %v", sections, want)
	}
	checkError(t, l, api.ErrArg)
}

// R4: answers are new memory, with the room behind them.
func TestAnswersAreNewMemory(t *testing.T) {
	l := row("LOCK 0, LOCK 3, LOCK 5, UNLOCK 5, UNLOCK 3, UNLOCK 0, END")
	a, _ := Sections(l)
	b, _ := Sections(l)
	for at := range a[:cap(a)] {
		a[:cap(a)][at] = Section{9, 9}
	}
	again, e := Sections(l)
	want := []Section{{0, 5}, {3, 3}, {5, 1}}
	if !slices.Equal(b, want) || !slices.Equal(again, want) || e != api.OK {
		t.Errorf("another answer was changed: %v, %v", b, again)
	}
}
