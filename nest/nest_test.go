package nest

import (
	"math/rand"
	"slices"
	"strings"
	"testing"

	"camshaft/api"
	"camshaft/op"
	"camshaft/text"
)

const (
	top    = 1<<63 - 1
	bottom = -1 << 63
)

// row is the instructions whose lines, with a comma between, s is.
func row(s string) []api.Instr {
	l, e := text.Parse(strings.ReplaceAll(s, ", ", "\n") + "\n")
	if e != api.OK {
		panic(s)
	}
	return l
}

// show is a row in few letters, of one that is not right too.
func show(l []api.Instr) string {
	s := ""
	for _, i := range l {
		if line := text.Line(i); line != "" {
			s += line[:len(line)-1] + ", "
		} else {
			s += "none, "
		}
	}
	return strings.TrimSuffix(s, ", ")
}

// region is a loop or a lock: the places of what opens and what closes it.
type region struct{ from, to int }

// around tells whether the instruction at p stands in the region: it is open ahead of what closes it, but not ahead of what opens it.
func (r region) around(p int) bool { return r.from < p && p <= r.to }

// wantRegions is the chapter's regions again: an innermost one is taken out until none is left; what opens or closes must not be left then.
func wantRegions(l []api.Instr) ([]region, api.Errno) {
	if len(l) == 0 || len(l) > 200 {
		return nil, api.ErrArg
	}
	var left []int
	for p, i := range l {
		if !op.Right(i) {
			return nil, api.ErrArg
		}
		if slices.Contains([]int{op.Loop, op.Next, op.Lock, op.Unlock}, i.Op) {
			left = append(left, p)
		}
	}
	var found []region
	for len(left) > 0 {
		at := slices.IndexFunc(left, func(p int) bool { return l[p].Op == op.Next || l[p].Op == op.Unlock })
		if at < 1 {
			return nil, api.ErrNest
		}
		from, to := l[left[at-1]], l[left[at]]
		loop := from.Op == op.Loop && to.Op == op.Next
		lock := from.Op == op.Lock && to.Op == op.Unlock && from.A == to.A
		if !loop && !lock {
			return nil, api.ErrNest
		}
		found = append(found, region{left[at-1], left[at]})
		left = slices.Delete(left, at-1, at+1)
	}
	return found, api.OK
}

// wantMatch is P6.1 again.
func wantMatch(l []api.Instr) ([]int, api.Errno) {
	found, e := wantRegions(l)
	if e != api.OK {
		return nil, e
	}
	match := slices.Repeat([]int{-1}, len(l))
	for _, r := range found {
		match[r.from], match[r.to] = r.to, r.from
	}
	return match, api.OK
}

// wantHome is P6.2 again: of the regions around it the one that is opened last.
func wantHome(l []api.Instr) ([]int, api.Errno) {
	found, e := wantRegions(l)
	if e != api.OK {
		return nil, e
	}
	home := slices.Repeat([]int{-1}, len(l))
	for p := range l {
		for _, r := range found {
			if r.around(p) {
				home[p] = max(home[p], r.from)
			}
		}
	}
	return home, api.OK
}

// wantWhole is P6.3 again.
func wantWhole(l []api.Instr) api.Errno {
	home, e := wantHome(l)
	if e != api.OK {
		return e
	}
	for p, i := range l {
		if (i.Op == op.End) != (p == len(l)-1) {
			return api.ErrNest
		}
	}
	for p, i := range l {
		if i.Op == op.Jump || i.Op == op.Branch {
			to := p + 1 + i.A
			if to > len(l)-1 || home[to] != home[p] {
				return api.ErrJump
			}
		}
	}
	return api.OK
}

// wantHeld is P6.4 again: block by block.
func wantHeld(l []api.Instr) ([]int, api.Errno) {
	found, e := wantRegions(l)
	if e != api.OK {
		return nil, e
	}
	held := make([]int, len(l))
	for p := range l {
		for block, size := 0, 1; block < 8; block, size = block+1, size*2 {
			is := func(r region) bool { return r.around(p) && l[r.from] == api.Instr{Op: op.Lock, A: block} }
			if slices.ContainsFunc(found, is) {
				held[p] += size
			}
		}
	}
	return held, api.OK
}

// wantLocks is P6.5 again: each of its clauses by itself, over all regions and all pairs of places.
func wantLocks(l []api.Instr) ([]int, api.Errno) {
	if e := wantWhole(l); e != api.OK {
		return nil, e
	}
	found, _ := wantRegions(l)
	var blocks []int
	for p, i := range l {
		covered := false
		for _, r := range found {
			opening := l[r.from]
			if !r.around(p) {
				continue
			}
			if i.Op == op.Lock && (opening.Op == op.Loop || opening.A >= i.A) {
				return nil, api.ErrLock
			}
			covered = covered || opening.Op == op.Lock && opening.A == i.A
		}
		if (i.Op == op.Get || i.Op == op.Put) && !covered {
			return nil, api.ErrLock
		}
		for _, ahead := range l[:p] {
			if i.Op == op.Lock && ahead.Op == op.Unlock {
				return nil, api.ErrLock
			}
		}
		if i.Op == op.Lock {
			blocks = append(blocks, i.A)
		}
	}
	return blocks, api.OK
}

// listCall is a call that answers a list, by its name, and the same by the chapter's words.
type listCall struct {
	name      string
	got, want func([]api.Instr) ([]int, api.Errno)
}

func listCalls() []listCall {
	return []listCall{
		{"Match", Match, wantMatch},
		{"Home", Home, wantHome},
		{"Held", Held, wantHeld},
		{"Locks", Locks, wantLocks},
	}
}

// checkAll holds all five calls against the chapter's words.
func checkAll(t *testing.T, l []api.Instr) {
	t.Helper()
	for _, c := range listCalls() {
		want, wantE := c.want(l)
		if got, e := c.got(l); !slices.Equal(got, want) || e != wantE {
			t.Errorf("%s(%s) = %v, %d; want %v, %d", c.name, show(l), got, e, want, wantE)
		}
	}
	if got, want := Whole(l), wantWhole(l); got != want {
		t.Errorf("Whole(%s) = %d, want %d", show(l), got, want)
	}
}

// checkErrors asks for the errors of all five calls: matched is that of Match, Home and Held.
func checkErrors(t *testing.T, l []api.Instr, matched, whole, locks api.Errno) {
	t.Helper()
	for _, c := range listCalls() {
		want := matched
		if c.name == "Locks" {
			want = locks
		}
		got, e := c.got(l)
		if e != want {
			t.Errorf("%s(%s): %d, want %d", c.name, show(l), e, want)
		}
		if e != api.OK && len(got) != 0 {
			t.Errorf("%s(%s): %v beside the error %d", c.name, show(l), got, e)
		}
	}
	if e := Whole(l); e != whole {
		t.Errorf("Whole(%s) = %d, want %d", show(l), e, whole)
	}
	checkAll(t, l)
}

// checkNest asks of a text's row for ErrNest of all.
func checkNest(t *testing.T, s string) {
	t.Helper()
	checkErrors(t, row(s), api.ErrNest, api.ErrNest, api.ErrNest)
}

// checkWhole asks of a text's row, whose regions stand in one another, for Whole's error; Locks has it, too.
func checkWhole(t *testing.T, s string, e api.Errno) {
	t.Helper()
	checkErrors(t, row(s), api.OK, e, e)
}

// checkLocks asks of a text's row, that is whole, for the blocks of Locks, or ErrLock.
func checkLocks(t *testing.T, s string, e api.Errno, blocks ...int) {
	t.Helper()
	checkErrors(t, row(s), api.OK, api.OK, e)
	if got, _ := Locks(row(s)); !slices.Equal(got, blocks) {
		t.Errorf("Locks(%s) = %v, want %v", s, got, blocks)
	}
}

// writtenRow is a row with all that is told of it written out.
type writtenRow struct {
	s                 string
	match, home, held []int
	whole, locked     api.Errno
	blocks            []int
}

func writtenRows() []writtenRow {
	return []writtenRow{
		{"LOCK 1, LOOP 3, NEXT, UNLOCK 1, END", []int{3, 2, 1, 0, -1}, []int{-1, 0, 1, 0, -1}, []int{0, 2, 2, 2, 0}, api.OK, api.OK, []int{1}},
		{"END", []int{-1}, []int{-1}, []int{0}, api.OK, api.OK, nil},
		{"DUP", []int{-1}, []int{-1}, []int{0}, api.ErrNest, api.ErrNest, nil},
		{"PUSH 5, DROP, END", []int{-1, -1, -1}, []int{-1, -1, -1}, []int{0, 0, 0}, api.OK, api.OK, nil},
		{"LOOP 1, NEXT, LOOP 1000, NEXT, END", []int{1, 0, 3, 2, -1}, []int{-1, 0, -1, 2, -1}, []int{0, 0, 0, 0, 0}, api.OK, api.OK, nil},
		{"LOCK 0, LOCK 7, GET 7 0, PUT 0 7, UNLOCK 7, GET 0 1, UNLOCK 0, END", []int{6, 4, -1, -1, 1, -1, 0, -1}, []int{-1, 0, 1, 1, 1, 0, 0, -1}, []int{0, 1, 129, 129, 129, 1, 1, 0}, api.OK, api.OK, []int{0, 7}},
		{"LOOP 2, DUP, LOOP 3, DROP, NEXT, NEXT, END", []int{5, -1, 4, -1, 2, 0, -1}, []int{-1, 0, 0, 2, 2, 0, -1}, []int{0, 0, 0, 0, 0, 0, 0}, api.OK, api.OK, nil},
		{"LOCK 2, LOCK 2, DUP, UNLOCK 2, DUP, UNLOCK 2, DUP, END", []int{5, 3, -1, 1, -1, 0, -1, -1}, []int{-1, 0, 1, 1, 0, 0, -1, -1}, []int{0, 4, 4, 4, 4, 4, 0, 0}, api.OK, api.ErrLock, nil},
		{"LOCK 3, UNLOCK 3, LOCK 3, UNLOCK 3, END", []int{1, 0, 3, 2, -1}, []int{-1, 0, -1, 2, -1}, []int{0, 8, 0, 8, 0}, api.OK, api.ErrLock, nil},
		{"LOCK 5, LOCK 1, UNLOCK 1, UNLOCK 5, END", []int{3, 2, 1, 0, -1}, []int{-1, 0, 1, 0, -1}, []int{0, 32, 34, 32, 0}, api.OK, api.ErrLock, nil},
		{"LOOP 4, LOCK 0, LOOP 2, NEXT, UNLOCK 0, NEXT", []int{5, 4, 3, 2, 1, 0}, []int{-1, 0, 1, 2, 1, 0}, []int{0, 0, 1, 1, 1, 0}, api.ErrNest, api.ErrNest, nil},
		{"BRANCH 1, JUMP 9, END", []int{-1, -1, -1}, []int{-1, -1, -1}, []int{0, 0, 0}, api.ErrJump, api.ErrJump, nil},
	}
}

// P6.1 to P6.5: rows that are written out, the chapter's example first.
func TestRowsWrittenOut(t *testing.T) {
	for _, w := range writtenRows() {
		l := row(w.s)
		if match, e := Match(l); !slices.Equal(match, w.match) || e != api.OK {
			t.Errorf("Match(%s) = %v, %d; want %v", w.s, match, e, w.match)
		}
		if home, e := Home(l); !slices.Equal(home, w.home) || e != api.OK {
			t.Errorf("Home(%s) = %v, %d; want %v", w.s, home, e, w.home)
		}
		if held, e := Held(l); !slices.Equal(held, w.held) || e != api.OK {
			t.Errorf("Held(%s) = %v, %d; want %v", w.s, held, e, w.held)
		}
		if e := Whole(l); e != w.whole {
			t.Errorf("Whole(%s) = %d, want %d", w.s, e, w.whole)
		}
		if blocks, e := Locks(l); !slices.Equal(blocks, w.blocks) || e != w.locked {
			t.Errorf("Locks(%s) = %v, %d; want %v, %d", w.s, blocks, e, w.blocks, w.locked)
		}
		checkAll(t, l)
	}
}

// filled is a row of many instructions, the last one End.
func filled(many int) []api.Instr {
	return append(slices.Repeat([]api.Instr{{Op: op.Dup}}, many-1), api.Instr{Op: op.End})
}

// deep is a row of many regions in one another, and End: loops alone, or loops in a lock.
func deep(many int, outer bool) []api.Instr {
	from := slices.Repeat([]api.Instr{{Op: op.Loop, A: 2}}, many)
	to := slices.Repeat([]api.Instr{{Op: op.Next}}, many)
	if outer {
		from[0], to[many-1] = api.Instr{Op: op.Lock, A: 4}, api.Instr{Op: op.Unlock, A: 4}
	}
	return append(append(from, to...), api.Instr{Op: op.End})
}

// P6.1 to P6.5: nil, none, one, 200 and 201 instructions.
func TestHowMany(t *testing.T) {
	for _, l := range [][]api.Instr{nil, {}, filled(3)[:0], filled(201), filled(202), filled(1000), deep(100, false), make([]api.Instr, 201)} {
		checkErrors(t, l, api.ErrArg, api.ErrArg, api.ErrArg)
	}
	for _, l := range [][]api.Instr{filled(1), filled(2), filled(199), filled(200), deep(99, false), deep(99, true)} {
		checkErrors(t, l, api.OK, api.OK, api.OK)
	}
	full := append([]api.Instr{{Op: op.Dup}}, deep(99, true)...)
	checkErrors(t, full, api.OK, api.OK, api.OK)
	checkErrors(t, append(full, api.Instr{Op: op.End}), api.ErrArg, api.ErrArg, api.ErrArg)
	checkErrors(t, slices.Repeat([]api.Instr{{Op: op.Loop, A: 1}}, 200), api.ErrNest, api.ErrNest, api.ErrNest)
	checkErrors(t, slices.Repeat([]api.Instr{{Op: op.Next}}, 200), api.ErrNest, api.ErrNest, api.ErrNest)
	checkErrors(t, slices.Repeat([]api.Instr{{Op: op.Loop, A: 1}}, 201), api.ErrArg, api.ErrArg, api.ErrArg)
}

// P6.1, P6.2: 99 regions in one another, counted.
func TestDeepRegions(t *testing.T) {
	l := deep(99, true)
	match, _ := Match(l)
	home, _ := Home(l)
	held, _ := Held(l)
	for p := range 99 {
		closing := 197 - p
		if match[p] != closing || match[closing] != p || home[p] != p-1 || home[closing] != p {
			t.Errorf("at %d: %d, %d, %d, %d", p, match[p], match[closing], home[p], home[closing])
		}
		if held[closing] != 16 || (held[p] == 16) != (p > 0) {
			t.Errorf("at %d: held %d, %d", p, held[p], held[closing])
		}
	}
	if match[198] != -1 || home[198] != -1 || held[198] != 0 {
		t.Errorf("at the end: %d, %d, %d", match[198], home[198], held[198])
	}
}

// wrongOnes is instructions that are not right, each for another reason.
func wrongOnes() []api.Instr {
	return []api.Instr{
		{}, {Op: -1}, {Op: 26}, {Op: top}, {Op: bottom},
		{Op: op.Lock, A: 8}, {Op: op.Lock, A: -1}, {Op: op.Lock, A: top}, {Op: op.Lock, B: 1}, {Op: op.Unlock, A: 8}, {Op: op.Unlock, A: 64},
		{Op: op.Loop}, {Op: op.Loop, A: 1001}, {Op: op.Loop, A: -1}, {Op: op.Next, A: 1}, {Op: op.Next, B: 1}, {Op: op.End, A: 1},
		{Op: op.Jump, A: -1}, {Op: op.Jump, A: 200}, {Op: op.Jump, A: top}, {Op: op.Branch, A: -1}, {Op: op.Branch, A: bottom},
		{Op: op.Get, A: 8}, {Op: op.Get, B: 8}, {Op: op.Put, A: -1}, {Op: op.Put, B: -1}, {Op: op.Two},
	}
}

// P6.1 to P6.5: one instruction that is not right, at any place, of rows that are right and of those with other errors.
func TestOneThatIsNotRight(t *testing.T) {
	for _, wrong := range wrongOnes() {
		checkErrors(t, []api.Instr{wrong}, api.ErrArg, api.ErrArg, api.ErrArg)
		for _, s := range []string{"LOCK 1, LOOP 3, GET 1 0, NEXT, UNLOCK 1, END", "NEXT, END, LOOP 1", "JUMP 9, END", "GET 0 0, END", "DUP, DUP"} {
			for p := range row(s) {
				l := row(s)
				l[p] = wrong
				checkErrors(t, l, api.ErrArg, api.ErrArg, api.ErrArg)
				checkErrors(t, slices.Insert(row(s), p, wrong), api.ErrArg, api.ErrArg, api.ErrArg)
			}
			checkErrors(t, append(row(s), wrong), api.ErrArg, api.ErrArg, api.ErrArg)
		}
		l := filled(200)
		l[199] = wrong
		checkErrors(t, l, api.ErrArg, api.ErrArg, api.ErrArg)
	}
}

// P6.1: what closes nothing.
func TestMatchOfWhatClosesNothing(t *testing.T) {
	for _, s := range []string{
		"NEXT", "UNLOCK 0", "NEXT, END", "UNLOCK 3, END", "DUP, NEXT, END",
		"LOOP 2, NEXT, NEXT, END", "LOCK 2, UNLOCK 2, UNLOCK 2, END", "LOOP 2, NEXT, UNLOCK 0, END", "LOCK 0, UNLOCK 0, NEXT, END",
		"NEXT, LOOP 2, END", "UNLOCK 1, LOCK 1, END", "NEXT, LOOP 2, NEXT, END",
	} {
		checkNest(t, s)
	}
}

// P6.1: what closes a region of the other kind, or a lock of another block.
func TestMatchOfOtherKinds(t *testing.T) {
	for _, s := range []string{
		"LOOP 2, UNLOCK 2, END", "LOCK 2, NEXT, END", "LOCK 0, NEXT, END", "LOOP 1, UNLOCK 0, END",
		"LOCK 1, LOOP 2, UNLOCK 1, NEXT, END", "LOOP 2, LOCK 1, NEXT, UNLOCK 1, END",
		"LOCK 1, UNLOCK 2, END", "LOCK 0, UNLOCK 7, END", "LOCK 0, UNLOCK 1, END", "LOCK 7, UNLOCK 0, END",
		"LOCK 1, LOCK 2, UNLOCK 1, UNLOCK 2, END", "LOCK 1, UNLOCK 2, LOCK 2, UNLOCK 1, END",
	} {
		checkNest(t, s)
	}
}

// P6.1: regions that are not closed.
func TestMatchOfOpenRegions(t *testing.T) {
	for _, s := range []string{
		"LOOP 1", "LOCK 0", "LOOP 1, END", "LOCK 0, END", "LOOP 2, LOOP 2, NEXT, END", "LOCK 1, LOCK 2, UNLOCK 2, END",
		"LOOP 2, NEXT, LOOP 3, END", "LOOP 2, LOCK 1, UNLOCK 1, END", "LOCK 3, LOOP 2, NEXT, END", "DUP, LOOP 2, DUP, END",
	} {
		checkNest(t, s)
	}
}

// P6.1: how many rounds a loop has does not matter.
func TestMatchOfLoopsOfAllRounds(t *testing.T) {
	for rounds := 1; rounds <= 1000; rounds++ {
		l := []api.Instr{{Op: op.Loop, A: rounds}, {Op: op.Next}, {Op: op.End}}
		if match, e := Match(l); !slices.Equal(match, []int{1, 0, -1}) || e != api.OK {
			t.Errorf("Match of a loop of %d = %v, %d", rounds, match, e)
		}
	}
}

// P6.1: each block's lock is closed by its own Unlock alone.
func TestMatchOfLocksOfAllBlocks(t *testing.T) {
	for a := range 8 {
		for b := range 8 {
			match, e := Match([]api.Instr{{Op: op.Lock, A: a}, {Op: op.Unlock, A: b}})
			if a == b && (!slices.Equal(match, []int{1, 0}) || e != api.OK) || a != b && (len(match) != 0 || e != api.ErrNest) {
				t.Errorf("Match of Lock %d, Unlock %d = %v, %d", a, b, match, e)
			}
		}
	}
}

// P6.2: what opens does not stand in its own region, what closes does.
func TestHomeOfOpeningAndClosing(t *testing.T) {
	for s, want := range map[string][]int{
		"LOOP 1, NEXT":                                         {-1, 0},
		"LOCK 0, UNLOCK 0":                                     {-1, 0},
		"DUP, LOOP 1, DUP, NEXT, DUP":                          {-1, -1, 1, 1, -1},
		"LOOP 1, LOOP 1, NEXT, LOOP 1, NEXT, NEXT":             {-1, 0, 1, 0, 3, 0},
		"LOOP 9, LOCK 3, DUP, UNLOCK 3, DUP, NEXT, DUP":        {-1, 0, 1, 1, 0, 0, -1},
		"LOCK 0, LOCK 1, LOCK 2, UNLOCK 2, UNLOCK 1, UNLOCK 0": {-1, 0, 1, 2, 1, 0},
	} {
		if home, e := Home(row(s)); !slices.Equal(home, want) || e != api.OK {
			t.Errorf("Home(%s) = %v, %d; want %v", s, home, e, want)
		}
		checkAll(t, row(s))
	}
}

// P6.3: the last one is End, and no other is.
func TestWholeOfEnds(t *testing.T) {
	checkWhole(t, "END", api.OK)
	checkWhole(t, "DUP, DUP, END", api.OK)
	for _, s := range []string{
		"DUP", "PUSH 25", "JUMP 0", "BRANCH 0", "LOOP 2, NEXT", "LOCK 1, UNLOCK 1", "END, DUP", "DUP, END, DUP",
		"END, END", "DUP, END, END", "END, DUP, END", "LOOP 2, END, NEXT, END", "LOCK 1, END, UNLOCK 1, END", "LOOP 2, END, NEXT",
	} {
		checkWhole(t, s, api.ErrNest)
	}
}

// P6.3: a Jump and a Branch, to the next one, to the last one, and behind it.
func TestWholeOfJumpsAndTheEnd(t *testing.T) {
	for _, jump := range []string{"JUMP", "BRANCH"} {
		checkWhole(t, jump+" 0, END", api.OK)
		checkWhole(t, jump+" 1, END", api.ErrJump)
		checkWhole(t, jump+" 2, END", api.ErrJump)
		checkWhole(t, jump+" 199, END", api.ErrJump)
		checkWhole(t, jump+" 0, DUP, DUP, END", api.OK)
		checkWhole(t, jump+" 1, DUP, DUP, END", api.OK)
		checkWhole(t, jump+" 2, DUP, DUP, END", api.OK)
		checkWhole(t, jump+" 3, DUP, DUP, END", api.ErrJump)
		checkWhole(t, "DUP, "+jump+" 1, DUP, END", api.OK)
		checkWhole(t, "DUP, "+jump+" 2, DUP, END", api.ErrJump)
		checkWhole(t, jump+" 0, "+jump+" 1, DUP, END", api.OK)
		checkWhole(t, jump+" 0, "+jump+" 2, DUP, END", api.ErrJump)
		checkWhole(t, jump+" 9, "+jump+" 0, DUP, END", api.ErrJump)
	}
	for a := range 200 {
		for _, jump := range []int{op.Jump, op.Branch} {
			l := filled(200)
			l[0] = api.Instr{Op: jump, A: a}
			want := api.OK
			if a == 199 {
				want = api.ErrJump
			}
			if e := Whole(l); e != want {
				t.Errorf("Whole of 200 with a jump of %d: %d, want %d", a, e, want)
			}
		}
	}
}

// P6.3: a Jump and a Branch into a region, out of one, to what closes its own, to what opens one, over one, and from one into the next.
func TestWholeOfJumpsAndRegions(t *testing.T) {
	for _, jump := range []string{"JUMP", "BRANCH"} {
		for _, r := range [][2]string{{"LOOP 2", "NEXT"}, {"LOCK 1", "UNLOCK 1"}} {
			from, to := r[0], r[1]
			checkWhole(t, jump+" 0, "+from+", DUP, "+to+", END", api.OK)
			checkWhole(t, jump+" 1, "+from+", DUP, "+to+", END", api.ErrJump)
			checkWhole(t, jump+" 2, "+from+", DUP, "+to+", END", api.ErrJump)
			checkWhole(t, jump+" 3, "+from+", DUP, "+to+", END", api.OK)
			checkWhole(t, from+", "+jump+" 0, DUP, "+to+", DUP, END", api.OK)
			checkWhole(t, from+", "+jump+" 1, DUP, "+to+", DUP, END", api.OK)
			checkWhole(t, from+", "+jump+" 2, DUP, "+to+", DUP, END", api.ErrJump)
			checkWhole(t, from+", "+jump+" 3, DUP, "+to+", DUP, END", api.ErrJump)
			checkWhole(t, from+", "+jump+" 0, "+to+", END", api.OK)
			checkWhole(t, from+", "+jump+" 1, "+to+", END", api.ErrJump)
		}
		checkWhole(t, "LOOP 2, "+jump+" 2, NEXT, LOOP 2, NEXT, END", api.ErrJump)
		checkWhole(t, "LOOP 2, "+jump+" 2, NEXT, LOOP 2, DUP, NEXT, END", api.ErrJump)
		checkWhole(t, "LOOP 2, "+jump+" 0, LOOP 2, NEXT, NEXT, END", api.OK)
		checkWhole(t, "LOOP 2, "+jump+" 1, LOOP 2, NEXT, NEXT, END", api.ErrJump)
		checkWhole(t, "LOOP 2, "+jump+" 2, LOOP 2, NEXT, NEXT, END", api.OK)
		checkWhole(t, "LOOP 2, LOOP 2, "+jump+" 1, NEXT, DUP, NEXT, END", api.ErrJump)
		checkWhole(t, "LOOP 2, LOOP 2, "+jump+" 2, NEXT, DUP, NEXT, END", api.ErrJump)
		checkWhole(t, "LOOP 2, LOOP 2, "+jump+" 3, NEXT, DUP, NEXT, END", api.ErrJump)
	}
}

// P6.4: of each block alone, of all in one another, the same one twice, and loops that count for nothing.
func TestHeld(t *testing.T) {
	for block := range 8 {
		l := []api.Instr{{Op: op.Dup}, {Op: op.Lock, A: block}, {Op: op.Dup}, {Op: op.Unlock, A: block}, {Op: op.Dup}}
		if held, e := Held(l); !slices.Equal(held, []int{0, 0, 1 << block, 1 << block, 0}) || e != api.OK {
			t.Errorf("Held of the block %d = %v, %d", block, held, e)
		}
	}
	for s, want := range map[string][]int{
		"LOCK 0, LOCK 1, LOCK 2, UNLOCK 2, UNLOCK 1, UNLOCK 0":      {0, 1, 3, 7, 3, 1},
		"LOCK 2, LOCK 1, LOCK 0, UNLOCK 0, UNLOCK 1, UNLOCK 2":      {0, 4, 6, 7, 6, 4},
		"LOCK 1, LOCK 1, LOCK 1, UNLOCK 1, UNLOCK 1, UNLOCK 1":      {0, 2, 2, 2, 2, 2},
		"LOCK 1, LOCK 6, LOCK 1, UNLOCK 1, UNLOCK 6, UNLOCK 1, END": {0, 2, 66, 66, 66, 2, 0},
		"LOOP 3, LOCK 4, LOOP 7, DUP, NEXT, UNLOCK 4, NEXT, END":    {0, 0, 16, 16, 16, 16, 0, 0},
		"LOCK 0, UNLOCK 0, LOCK 5, UNLOCK 5":                        {0, 1, 0, 32},
		"LOCK 3, LOCK 4, UNLOCK 4, LOCK 5, UNLOCK 5, UNLOCK 3, END": {0, 8, 24, 8, 40, 8, 0},
		"LOOP 2, NEXT": {0, 0},
	} {
		if held, e := Held(row(s)); !slices.Equal(held, want) || e != api.OK {
			t.Errorf("Held(%s) = %v, %d; want %v", s, held, e, want)
		}
	}
	l := row("LOCK 0, LOCK 1, LOCK 2, LOCK 3, LOCK 4, LOCK 5, LOCK 6, LOCK 7, UNLOCK 7, UNLOCK 6, UNLOCK 5, UNLOCK 4, UNLOCK 3, UNLOCK 2, UNLOCK 1, UNLOCK 0, END")
	if held, _ := Held(l); !slices.Equal(held, []int{0, 1, 3, 7, 15, 31, 63, 127, 255, 127, 63, 31, 15, 7, 3, 1, 0}) {
		t.Errorf("Held of all blocks = %v", held)
	}
}

// P6.5: where a Lock may be, and the blocks in order.
func TestLocks(t *testing.T) {
	checkLocks(t, "END", api.OK)
	checkLocks(t, "LOOP 2, NEXT, END", api.OK)
	checkLocks(t, "LOCK 0, UNLOCK 0, END", api.OK, 0)
	checkLocks(t, "LOCK 7, UNLOCK 7, END", api.OK, 7)
	checkLocks(t, "LOOP 2, NEXT, LOCK 3, UNLOCK 3, LOOP 2, NEXT, END", api.OK, 3)
	checkLocks(t, "LOCK 2, LOOP 5, NEXT, UNLOCK 2, END", api.OK, 2)
	checkLocks(t, "LOCK 2, LOOP 5, NEXT, LOCK 3, UNLOCK 3, UNLOCK 2, END", api.OK, 2, 3)
	checkLocks(t, "LOCK 0, DUP, LOCK 6, LOCK 7, UNLOCK 7, UNLOCK 6, UNLOCK 0, END", api.OK, 0, 6, 7)
	checkLocks(t, "LOCK 0, LOCK 1, LOCK 2, LOCK 3, LOCK 4, LOCK 5, LOCK 6, LOCK 7, UNLOCK 7, UNLOCK 6, UNLOCK 5, UNLOCK 4, UNLOCK 3, UNLOCK 2, UNLOCK 1, UNLOCK 0, END", api.OK, 0, 1, 2, 3, 4, 5, 6, 7)
}

// P6.5: a Lock in a loop, at once and with locks or loops between.
func TestLocksInLoops(t *testing.T) {
	for _, s := range []string{
		"LOOP 2, LOCK 1, UNLOCK 1, NEXT, END",
		"LOOP 1, LOCK 0, UNLOCK 0, NEXT, END",
		"LOCK 0, LOOP 2, LOCK 1, UNLOCK 1, NEXT, UNLOCK 0, END",
		"LOOP 2, LOOP 3, LOCK 1, UNLOCK 1, NEXT, NEXT, END",
		"LOOP 2, DUP, LOOP 3, NEXT, LOCK 1, UNLOCK 1, NEXT, END",
		"LOOP 2, LOCK 0, LOCK 1, UNLOCK 1, UNLOCK 0, NEXT, END",
	} {
		checkLocks(t, s, api.ErrLock)
	}
}

// P6.5: two locks in one another, of all pairs of blocks: just rising ones may be; side by side, and a third one behind an inner Unlock, none.
func TestLocksInLocksAndBehindUnlocks(t *testing.T) {
	for a := range 8 {
		for b := range 8 {
			lockA, lockB := api.Instr{Op: op.Lock, A: a}, api.Instr{Op: op.Lock, A: b}
			freeA, freeB, end := api.Instr{Op: op.Unlock, A: a}, api.Instr{Op: op.Unlock, A: b}, api.Instr{Op: op.End}
			want := api.ErrLock
			if a < b {
				want = api.OK
			}
			checkErrors(t, []api.Instr{lockA, lockB, freeB, freeA, end}, api.OK, api.OK, want)
			checkErrors(t, []api.Instr{lockA, freeA, lockB, freeB, end}, api.OK, api.OK, api.ErrLock)
			checkErrors(t, []api.Instr{lockA, freeA, {Op: op.Dup}, {Op: op.Loop, A: 1}, {Op: op.Next}, lockB, freeB, end}, api.OK, api.OK, api.ErrLock)
			checkErrors(t, []api.Instr{{Op: op.Lock}, lockA, freeA, lockB, freeB, {Op: op.Unlock}, end}, api.OK, api.OK, api.ErrLock)
		}
	}
	checkLocks(t, "LOCK 1, LOCK 5, LOCK 3, UNLOCK 3, UNLOCK 5, UNLOCK 1, END", api.ErrLock)
	checkLocks(t, "LOCK 5, LOCK 1, LOCK 3, UNLOCK 3, UNLOCK 1, UNLOCK 5, END", api.ErrLock)
	checkLocks(t, "LOCK 1, LOCK 3, LOCK 1, UNLOCK 1, UNLOCK 3, UNLOCK 1, END", api.ErrLock)
	checkLocks(t, "LOCK 1, LOCK 2, UNLOCK 2, LOCK 3, UNLOCK 3, UNLOCK 1, END", api.ErrLock)
}

// P6.5: a Get and a Put in a lock with its A, in one with another A, in none; which word does not matter.
func TestLocksOfWords(t *testing.T) {
	for _, access := range []int{op.Get, op.Put} {
		for a := range 8 {
			for b := range 8 {
				word := api.Instr{Op: access, A: b, B: (a + 3) % 8}
				lock, free, end := api.Instr{Op: op.Lock, A: a}, api.Instr{Op: op.Unlock, A: a}, api.Instr{Op: op.End}
				want := api.ErrLock
				if a == b {
					want = api.OK
				}
				checkErrors(t, []api.Instr{lock, word, free, end}, api.OK, api.OK, want)
				checkErrors(t, []api.Instr{lock, {Op: op.Loop, A: 3}, word, {Op: op.Next}, free, end}, api.OK, api.OK, want)
				checkErrors(t, []api.Instr{word, lock, free, end}, api.OK, api.OK, api.ErrLock)
				checkErrors(t, []api.Instr{lock, free, word, end}, api.OK, api.OK, api.ErrLock)
				checkErrors(t, []api.Instr{word, end}, api.OK, api.OK, api.ErrLock)
				checkErrors(t, []api.Instr{{Op: op.Loop, A: b + 1}, word, {Op: op.Next}, end}, api.OK, api.OK, api.ErrLock)
			}
		}
	}
	for _, access := range []string{"GET", "PUT"} {
		checkLocks(t, "LOCK 1, LOCK 2, "+access+" 1 0, UNLOCK 2, UNLOCK 1, END", api.OK, 1, 2)
		checkLocks(t, "LOCK 1, LOCK 2, "+access+" 2 7, UNLOCK 2, "+access+" 1 0, UNLOCK 1, END", api.OK, 1, 2)
		checkLocks(t, "LOCK 1, LOCK 2, UNLOCK 2, "+access+" 2 0, UNLOCK 1, END", api.ErrLock)
		checkLocks(t, "LOCK 1, "+access+" 2 0, LOCK 2, UNLOCK 2, UNLOCK 1, END", api.ErrLock)
		checkLocks(t, "LOCK 1, LOCK 2, "+access+" 3 0, UNLOCK 2, UNLOCK 1, END", api.ErrLock)
	}
}

// P6.3, P6.5, R2: where several errors apply, the one that is named first, wherever the others stand.
func TestErrorsInOrder(t *testing.T) {
	bad := api.Instr{Op: op.Lock, A: 9}
	checkErrors(t, append(row("LOOP 2, JUMP 9, GET 0 0, UNLOCK 1, DUP"), bad), api.ErrArg, api.ErrArg, api.ErrArg)
	checkErrors(t, append(slices.Repeat([]api.Instr{{Op: op.Next}}, 200), bad), api.ErrArg, api.ErrArg, api.ErrArg)
	for _, s := range []string{"JUMP 9, NEXT, END", "JUMP 1, LOOP 2, END", "GET 0 0, JUMP 9, LOCK 1, UNLOCK 0, END", "END, JUMP 9, NEXT"} {
		checkNest(t, s)
	}
	for _, s := range []string{"JUMP 9, END, END", "JUMP 9, DUP", "GET 0 0, JUMP 7", "GET 0 0, END, DUP", "LOCK 1, UNLOCK 1, LOCK 1, UNLOCK 1", "JUMP 1, LOOP 2, NEXT"} {
		checkWhole(t, s, api.ErrNest)
	}
	for _, s := range []string{"GET 0 0, JUMP 1, END", "LOOP 2, LOCK 1, UNLOCK 1, NEXT, BRANCH 5, END", "LOCK 1, UNLOCK 1, LOCK 1, BRANCH 1, UNLOCK 1, END", "LOCK 2, LOCK 1, JUMP 1, UNLOCK 1, UNLOCK 2, END"} {
		checkWhole(t, s, api.ErrJump)
	}
}

// pieces is instructions of which small rows are made.
func pieces() []api.Instr {
	return row("DUP, LOOP 2, NEXT, LOCK 0, UNLOCK 0, LOCK 1, UNLOCK 1, GET 0 0, PUT 1 1, JUMP 0, JUMP 1, BRANCH 2, END")
}

// eachShort calls see with all rows of up to most pieces.
func eachShort(most int, see func([]api.Instr)) {
	var longer func(l []api.Instr)
	longer = func(l []api.Instr) {
		see(l)
		if len(l) < most {
			for _, i := range pieces() {
				longer(append(slices.Clone(l), i))
			}
		}
	}
	longer(nil)
}

// some is a row of regions that stand in one another, with jumps, words, and End; now and then one instruction is another one.
func some(r *rand.Rand) []api.Instr {
	l := append(part(r, 1+r.Intn(4)), api.Instr{Op: op.End})
	if r.Intn(4) == 0 {
		l[r.Intn(len(l))] = pieces()[r.Intn(len(pieces()))]
	}
	return l
}

// part is a piece of a row, of up to deep regions in one another; many blocks rise inwards.
func part(r *rand.Rand, deep int) []api.Instr {
	var l []api.Instr
	for range r.Intn(4) {
		block := r.Intn(8)
		switch kind := r.Intn(8); {
		case kind < 2:
			l = append(l, api.Instr{Op: op.Dup})
		case kind == 2:
			l = append(l, api.Instr{Op: []int{op.Jump, op.Branch}[r.Intn(2)], A: r.Intn(3)})
		case kind == 3:
			l = append(l, api.Instr{Op: []int{op.Get, op.Put}[r.Intn(2)], A: block, B: r.Intn(8)})
		case deep == 0:
		case kind == 4:
			l = append(append(append(l, api.Instr{Op: op.Loop, A: 1 + r.Intn(1000)}), part(r, deep-1)...), api.Instr{Op: op.Next})
		default:
			block = min(7, max(0, 5-deep+r.Intn(3)))
			l = append(append(append(l, api.Instr{Op: op.Lock, A: block}), part(r, deep-1)...), api.Instr{Op: op.Unlock, A: block})
		}
	}
	return l
}

// P6.1 to P6.5: all rows of up to four pieces, and then closed by End.
func TestAllShortRows(t *testing.T) {
	eachShort(4, func(l []api.Instr) {
		checkAll(t, l)
		checkAll(t, append(slices.Clone(l), api.Instr{Op: op.End}))
	})
}

// P6.1 to P6.5: long rows; each kind of answer is among them.
func TestLongRows(t *testing.T) {
	r := rand.New(rand.NewSource(6))
	seen := map[api.Errno]int{}
	locks := 0
	for range 40000 {
		l := some(r)
		checkAll(t, l)
		blocks, e := Locks(l)
		seen[e]++
		locks = max(locks, len(blocks))
	}
	for _, e := range []api.Errno{api.OK, api.ErrNest, api.ErrJump, api.ErrLock} {
		if seen[e] < 100 {
			t.Errorf("the answer %d was seen %d times", e, seen[e])
		}
	}
	if locks < 3 {
		t.Errorf("no row had more than %d locks", locks)
	}
}

// checkLaws holds P6.6 of one row, by what the package answers alone.
func checkLaws(t *testing.T, l []api.Instr) {
	t.Helper()
	match, e := Match(l)
	if e != api.OK {
		return
	}
	for p, q := range match {
		opens, closes := l[p].Op == op.Loop || l[p].Op == op.Lock, l[p].Op == op.Next || l[p].Op == op.Unlock
		if (q != -1) != (opens || closes) || q != -1 && (match[q] != p || opens != (q > p)) {
			t.Errorf("%s: %d has the match %d", show(l), p, q)
		}
	}
	if Whole(l) == api.OK {
		checkJumps(t, l, match)
	}
	blocks, e := Locks(l)
	for at := 1; at < len(blocks); at++ {
		if e == api.OK && blocks[at-1] >= blocks[at] {
			t.Errorf("%s: locks %v", show(l), blocks)
		}
	}
}

// checkJumps asks of each jump that the same regions stand around both its ends.
func checkJumps(t *testing.T, l []api.Instr, match []int) {
	t.Helper()
	for p, i := range l {
		if i.Op != op.Jump && i.Op != op.Branch {
			continue
		}
		for from, to := range match {
			r := region{from, to}
			if r.around(p) != r.around(p+1+i.A) {
				t.Errorf("%s: the jump at %d leads over the edge of %v", show(l), p, r)
			}
		}
	}
}

// P6.6: matches go both ways, no jump leads into a region or out of it, blocks that are locked rise.
func TestLaws(t *testing.T) {
	eachShort(4, func(l []api.Instr) {
		checkLaws(t, append(slices.Clone(l), api.Instr{Op: op.End}))
	})
	r := rand.New(rand.NewSource(66))
	for range 40000 {
		checkLaws(t, some(r))
	}
}

// P6.6: what is held rises, too: a Lock's block is above all that are held ahead of it.
func TestLawOfHeldBlocks(t *testing.T) {
	r := rand.New(rand.NewSource(666))
	for range 40000 {
		l := some(r)
		if _, e := Locks(l); e != api.OK {
			continue
		}
		held, _ := Held(l)
		for p, i := range l {
			if i.Op == op.Lock && held[p] >= 1<<i.A {
				t.Errorf("%s: at %d %d is held", show(l), p, held[p])
			}
		}
	}
}

// R4: neither the row nor the room behind it is changed, and answers are new memory, with the room behind them.
func TestMemory(t *testing.T) {
	room := row("LOCK 0, LOCK 3, GET 0 1, LOOP 2, NEXT, UNLOCK 3, UNLOCK 0, END, DUP, DROP")
	kept := slices.Clone(room)
	l := room[:8]
	Whole(l)
	for _, c := range listCalls() {
		a, _ := c.got(l)
		b, _ := c.got(l)
		want := slices.Clone(b)
		for at := range a[:cap(a)] {
			a[:cap(a)][at] = 99
		}
		again, _ := c.got(l)
		if !slices.Equal(b, want) || !slices.Equal(again, want) {
			t.Errorf("%s: another answer was changed: %v, %v; want %v", c.name, b, again, want)
		}
	}
	if !slices.Equal(room, kept) {
		t.Errorf("the row handed in is now %s", show(room))
	}
	for p := range room {
		room[p] = api.Instr{}
	}
	for _, c := range listCalls() {
		if got, e := c.got(l); len(got) != 0 || e != api.ErrArg {
			t.Errorf("%s kept a row that is not there any more: %v, %d", c.name, got, e)
		}
	}
}
