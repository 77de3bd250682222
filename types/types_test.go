package types

import (
	"math/rand"
	"slices"
	"strings"
	"testing"

	"camshaft/api"
	"camshaft/nest"
	"camshaft/num"
	"camshaft/op"
	"camshaft/text"
)

const (
	top    = 1<<63 - 1
	bottom = -1 << 63
)

// row is the instructions whose lines, with a comma between, s is.
func row(s string) []api.Instr {
	l, e := text.Parse(strings.ReplaceAll(s, ", ", "\n") + "\n")
	if e != api.OK {
		panic(s)
	}
	return l
}

// show is a row in few letters, of one that is not right too.
func show(l []api.Instr) string {
	s := ""
	for _, i := range l {
		if line := text.Line(i); line != "" {
			s += line[:len(line)-1] + ", "
		} else {
			s += "none, "
		}
	}
	return strings.TrimSuffix(s, ", ")
}

// many is a piece of a row's text so many times, each with a comma behind.
func many(n int, s string) string { return strings.Repeat(s+", ", n) }

// aTruth is instructions that lay a truth on the stack.
const aTruth = "PUSH 1, PUSH 2, TWO 11"

// rule is the chapter's words of one operation: x and y are any value, the same one wherever the letter stands.
type rule struct{ takes, gives string }

// ruleOf is the chapter's words of an instruction that is right.
func ruleOf(i api.Instr) rule {
	switch op.Name(i.Op) {
	case "PUSH", "LOADL", "LOADR", "IN", "GET":
		return rule{"", "i"}
	case "DROP":
		return rule{"x", ""}
	case "DUP":
		return rule{"x", "xx"}
	case "SWAP":
		return rule{"xy", "yx"}
	case "TWO":
		if name := num.Name(i.A); name == "LT" || name == "EQ" {
			return rule{"ii", "b"}
		}
		return rule{"ii", "i"}
	case "NEG":
		return rule{"i", "i"}
	case "NOT":
		return rule{"b", "b"}
	case "BOTH", "EITHER":
		return rule{"bb", "b"}
	case "CAST":
		return rule{"b", "i"}
	case "STOREL", "STORER", "OUT", "PUT":
		return rule{"i", ""}
	case "BRANCH":
		return rule{"b", ""}
	}
	return rule{"", ""}
}

// with is the rule with values instead of letters.
func (r rule) with(x, y string) rule {
	put := strings.NewReplacer("x", x, "y", y)
	return rule{put.Replace(r.takes), put.Replace(r.gives)}
}

// wantGives is what is given for took, and whether it fits: some choice of values for the letters makes it so.
func wantGives(i api.Instr, took string) (string, bool) {
	if !op.Right(i) {
		return "", false
	}
	for _, x := range []string{"i", "b"} {
		for _, y := range []string{"i", "b"} {
			if r := ruleOf(i).with(x, y); r.takes == took {
				return r.gives, true
			}
		}
	}
	return "", false
}

func wantTakes(i api.Instr) string {
	if !op.Right(i) {
		return ""
	}
	blank := ruleOf(i).with(" ", " ")
	return blank.takes
}

// leads tells whether the instruction at q hands the stack behind it to that at p.
func leads(l []api.Instr, q, p int) bool {
	i := l[q]
	on := p == q+1 && i.Op != op.Jump && i.Op != op.End
	far := p == q+1+i.A && (i.Op == op.Jump || i.Op == op.Branch)
	return on || far
}

// wantStacks is P7.2 again: of each instruction all that hand it a stack are asked for anew.
func wantStacks(l []api.Instr) ([]string, api.Errno) {
	if e := nest.Whole(l); e != api.OK {
		return nil, e
	}
	match, _ := nest.Match(l)
	var ahead, behind []string
	for p, i := range l {
		var handed []string
		if p == 0 {
			handed = []string{""}
		}
		for q := range p {
			if leads(l, q, p) {
				handed = append(handed, behind[q])
			}
		}
		if len(handed) == 0 {
			return nil, api.ErrJump
		}
		slices.Sort(handed)
		if handed = slices.Compact(handed); len(handed) > 1 || i.Op == op.Next && handed[0] != ahead[match[p]] {
			return nil, api.ErrType
		}
		left, e := wantBehind(i, handed[0])
		if e != api.OK {
			return nil, e
		}
		ahead, behind = append(ahead, handed[0]), append(behind, left)
	}
	return ahead, api.OK
}

// wantBehind is the stack behind an instruction, or what is wrong with it.
func wantBehind(i api.Instr, stack string) (string, api.Errno) {
	takes := len(ruleOf(i).takes)
	if len(stack) < takes {
		return "", api.ErrStack
	}
	at := len(stack) - takes
	gives, fit := wantGives(i, stack[at:])
	if !fit {
		return "", api.ErrType
	}
	if at+len(gives) > 16 {
		return "", api.ErrStack
	}
	return stack[:at] + gives, api.OK
}

func wantDeep(l []api.Instr) (int, api.Errno) {
	stacks, e := wantStacks(l)
	deep := 0
	for _, s := range stacks {
		deep = max(deep, len(s))
	}
	return deep, e
}

// checkRow holds Stacks and Deep against the chapter's words.
func checkRow(t *testing.T, l []api.Instr) {
	t.Helper()
	want, wantE := wantStacks(l)
	if got, e := Stacks(l); !slices.Equal(got, want) || e != wantE {
		t.Errorf("Stacks(%s) = %q, %d; want %q, %d", show(l), got, e, want, wantE)
	}
	deep, wantE := wantDeep(l)
	if got, e := Deep(l); got != deep || e != wantE {
		t.Errorf("Deep(%s) = %d, %d; want %d, %d", show(l), got, e, deep, wantE)
	}
}

// checkError asks of both calls for an error, and for nothing beside it.
func checkError(t *testing.T, l []api.Instr, want api.Errno) {
	t.Helper()
	if got, e := Stacks(l); e != want || len(got) != 0 {
		t.Errorf("Stacks(%s) = %q, %d; want none, %d", show(l), got, e, want)
	}
	if got, e := Deep(l); e != want || got != 0 {
		t.Errorf("Deep(%s) = %d, %d; want 0, %d", show(l), got, e, want)
	}
	checkRow(t, l)
}

func checkErrorOf(t *testing.T, s string, want api.Errno) {
	t.Helper()
	checkError(t, row(s), want)
}

// checkStacks asks for a row's stacks, that are written with a comma between, and for how many values the deepest has.
func checkStacks(t *testing.T, s, stacks string, deep int) {
	t.Helper()
	l := row(s)
	if got, e := Stacks(l); strings.Join(got, ",") != stacks || len(got) != len(l) || e != api.OK {
		t.Errorf("Stacks(%s) = %q, %d; want %q", s, got, e, stacks)
	}
	if got, e := Deep(l); got != deep || e != api.OK {
		t.Errorf("Deep(%s) = %d, %d; want %d", s, got, e, deep)
	}
	checkRow(t, l)
}

// checkEffect asks for what an instruction takes, and gives for took.
func checkEffect(t *testing.T, i api.Instr, takes, took, gives string) {
	t.Helper()
	if got := Takes(i); got != takes {
		t.Errorf("Takes(%v) = %q, want %q", i, got, takes)
	}
	if got := Gives(i, took); got != gives {
		t.Errorf("Gives(%v, %q) = %q, want %q", i, took, got, gives)
	}
}

// rightOnes is instructions of every operation, with the edges of what they have.
func rightOnes() []api.Instr {
	var l []api.Instr
	numbers := []int{bottom, -1000, -1, 0, 1, 2, 3, 4, 5, 6, 7, 8, 9, 10, 11, 12, 15, 63, 199, 200, 1000, top}
	for o := op.Push; o <= op.End; o++ {
		for _, a := range numbers {
			for _, b := range []int{0, 1, 7} {
				if i := (api.Instr{Op: o, A: a, B: b}); op.Right(i) {
					l = append(l, i)
				}
			}
		}
	}
	return l
}

// wrongOnes is instructions that are not right, of every operation and of none.
func wrongOnes() []api.Instr {
	l := []api.Instr{{}, {Op: -1}, {Op: 26}, {Op: 256 + op.Dup}, {Op: 1<<32 + op.Push}, {Op: top}, {Op: bottom}, {Op: 0, A: 1}, {Op: 99, A: 12}}
	for o := op.Push; o <= op.End; o++ {
		for _, a := range []int{bottom, -1, 0, 1, 8, 13, 16, 200, 1001, top} {
			for _, b := range []int{0, 1, -1, 8, top} {
				if i := (api.Instr{Op: o, A: a, B: b}); !op.Right(i) {
					l = append(l, i)
				}
			}
		}
	}
	return l
}

// eachText calls see with all texts of up to most of these bytes.
func eachText(most int, letters string, see func(string)) {
	var longer func(s string)
	longer = func(s string) {
		see(s)
		if len(s) < most {
			for k := range len(letters) {
				longer(s + letters[k:k+1])
			}
		}
	}
	longer("")
}

// P7.1: each operation, written out.
func TestEffectsWrittenOut(t *testing.T) {
	for _, c := range []struct{ line, takes, took, gives string }{
		{"PUSH 5", "", "", "i"}, {"DROP", " ", "i", ""}, {"DROP", " ", "b", ""},
		{"DUP", " ", "i", "ii"}, {"DUP", " ", "b", "bb"},
		{"SWAP", "  ", "ii", "ii"}, {"SWAP", "  ", "bb", "bb"}, {"SWAP", "  ", "ib", "bi"}, {"SWAP", "  ", "bi", "ib"},
		{"NEG", "i", "i", "i"}, {"NOT", "b", "b", "b"}, {"BOTH", "bb", "bb", "b"}, {"EITHER", "bb", "bb", "b"}, {"CAST", "b", "b", "i"},
		{"LOADL 3", "", "", "i"}, {"STOREL 3", "i", "i", ""}, {"LOADR 3", "", "", "i"}, {"STORER 3", "i", "i", ""},
		{"IN 15", "", "", "i"}, {"OUT 15", "i", "i", ""}, {"GET 1 2", "", "", "i"}, {"PUT 1 2", "i", "i", ""},
		{"JUMP 3", "", "", ""}, {"BRANCH 3", "b", "b", ""}, {"LOOP 3", "", "", ""}, {"NEXT", "", "", ""},
		{"LOCK 3", "", "", ""}, {"UNLOCK 3", "", "", ""}, {"END", "", "", ""},
	} {
		checkEffect(t, row(c.line)[0], c.takes, c.took, c.gives)
	}
}

// P7.1: Two gives a truth of num.Lt and of num.Eq, of others a number.
func TestEffectsOfTwo(t *testing.T) {
	for a := num.Add; a <= num.Eq; a++ {
		gives := "i"
		if a == num.Lt || a == num.Eq {
			gives = "b"
		}
		checkEffect(t, api.Instr{Op: op.Two, A: a}, "ii", "ii", gives)
		for _, took := range []string{"", "i", "ib", "bi", "bb", "iii", "  "} {
			checkEffect(t, api.Instr{Op: op.Two, A: a}, "ii", took, "")
		}
	}
	for _, a := range []int{0, 13, -1, top, bottom} {
		checkEffect(t, api.Instr{Op: op.Two, A: a}, "", "ii", "")
	}
}

// P7.1: a took that is too short, too long, that does not fit in one byte, with bytes that are no values; a blank among these.
func TestGivesOfWhatDoesNotFit(t *testing.T) {
	for line, wrong := range map[string][]string{
		"PUSH 1":  {"i", "b", " ", "ii", "x"},
		"DUP":     {"", "ii", "ib", "x", " ", "I", "\x00", "\xff", "é", "1"},
		"SWAP":    {"", "i", "iib", "ix", "xi", " i", "b ", "  ", "\x00b", "é"},
		"NEG":     {"", "b", " ", "ii", "x", "I"},
		"NOT":     {"", "i", " ", "bb", "x", "B"},
		"BOTH":    {"", "b", "ib", "bi", "ii", "bbb", "  ", "b ", " b"},
		"EITHER":  {"", "b", "ib", "bi", "ii", "bbb", "  ", "b ", " b"},
		"CAST":    {"", "i", " ", "bb", "x"},
		"TWO 1":   {"", "i", "ib", "bi", "bb", "iii", "i ", " i"},
		"TWO 12":  {"", "i", "ib", "bi", "bb", "iii", "i ", " i"},
		"LOADL 0": {"i", "b", " "},
		"LOADR 0": {"i", "b", " "},
		"IN 0":    {"i", "b", " "},
		"GET 0 0": {"i", "b", " "},
	} {
		for _, took := range wrong {
			if got := Gives(row(line)[0], took); got != "" {
				t.Errorf("Gives(%s, %q) = %q", line, took, got)
			}
		}
	}
}

// P7.1: of each instruction all texts of up to three bytes, values and others, and long ones.
func TestEffects(t *testing.T) {
	for _, i := range rightOnes() {
		if got, want := Takes(i), wantTakes(i); got != want {
			t.Errorf("Takes(%v) = %q, want %q", i, got, want)
		}
		check := func(took string) {
			want, _ := wantGives(i, took)
			if got := Gives(i, took); got != want {
				t.Errorf("Gives(%v, %q) = %q, want %q", i, took, got, want)
			}
		}
		eachText(3, "ib xI\x00\xff", check)
		eachText(6, "ib", check)
		check(strings.Repeat("i", 1000))
	}
}

// P7.1: every byte, of what takes any value: just two of them are values.
func TestGivesOfEveryByte(t *testing.T) {
	for b := range 256 {
		s := string([]byte{byte(b)})
		twice, turned := "", ""
		if s == "i" || s == "b" {
			twice, turned = s+s, s+"i"
		}
		checkEffect(t, api.Instr{Op: op.Dup}, " ", s, twice)
		checkEffect(t, api.Instr{Op: op.Swap}, "  ", "i"+s, turned)
	}
}

// P7.1: an instruction that is not right takes and gives nothing.
func TestEffectsOfWhatIsNotRight(t *testing.T) {
	for _, i := range wrongOnes() {
		eachText(2, "ib ", func(took string) { checkEffect(t, i, "", took, "") })
	}
}

// P7.2, P7.3: rows that are written out.
func TestRowsWrittenOut(t *testing.T) {
	checkStacks(t, "END", "", 0)
	checkStacks(t, "PUSH 1, END", ",i", 1)
	checkStacks(t, "PUSH 1, DROP, END", ",i,", 1)
	checkStacks(t, "PUSH 1, DUP, TWO 12, NOT, CAST, OUT 3, END", ",i,ii,b,b,i,", 2)
	checkStacks(t, aTruth+", DUP, BOTH, DUP, EITHER, CAST, NEG, STORER 7, END", ",i,ii,b,bb,b,bb,b,i,i,", 2)
	checkStacks(t, "IN 0, LOADL 1, LOADR 2, TWO 3, TWO 11, DROP, END", ",i,ii,iii,ii,b,", 3)
	checkStacks(t, "LOCK 1, GET 1 2, NEG, PUT 1 3, UNLOCK 1, END", ",,i,i,,", 1)
	checkStacks(t, "PUSH 1, LOADR 2, TWO 12, PUSH 4, SWAP, BRANCH 0, DROP, END", ",i,ii,b,bi,ib,i,", 2)
	checkStacks(t, "IN 0, IN 1, SWAP, STOREL 0, STOREL 1, END", ",i,ii,ii,i,", 2)
}

// P7.2: the chapter's example.
func TestExample(t *testing.T) {
	checkErrorOf(t, "PUSH 1, CAST, END", api.ErrType)
	checkErrorOf(t, "JUMP 1, DUP, END", api.ErrJump)
}

// P7.2: Dup and Swap of a number, of a truth, of both.
func TestStacksOfDupAndSwap(t *testing.T) {
	checkStacks(t, "PUSH 1, DUP, END", ",i,ii", 2)
	checkStacks(t, aTruth+", DUP, END", ",i,ii,b,bb", 2)
	checkStacks(t, aTruth+", PUSH 1, DUP, END", ",i,ii,b,bi,bii", 3)
	checkStacks(t, "PUSH 0, "+aTruth+", DUP, END", ",i,ii,iii,ib,ibb", 3)
	checkStacks(t, "PUSH 0, "+aTruth+", SWAP, END", ",i,ii,iii,ib,bi", 3)
	checkStacks(t, aTruth+", PUSH 1, SWAP, SWAP, END", ",i,ii,b,bi,ib,bi", 2)
	checkStacks(t, aTruth+", DUP, SWAP, END", ",i,ii,b,bb,bb", 2)
	checkStacks(t, "PUSH 0, PUSH 0, "+aTruth+", SWAP, END", ",i,ii,iii,iiii,iib,ibi", 4)
}

// P7.2, P7.3: nest.Whole's errors go first, of rows whose stacks are wrong, too.
func TestStacksOfRowsThatAreNotWhole(t *testing.T) {
	for _, l := range [][]api.Instr{nil, {}, row("END")[:0]} {
		checkError(t, l, api.ErrArg)
	}
	checkError(t, row(many(199, "NEXT")+"DUP"), api.ErrNest)
	checkError(t, append(row(many(199, "NEXT")+"END"), api.Instr{Op: op.End}), api.ErrArg)
	checkError(t, append(row(many(199, "JUMP 0")+"JUMP 0"), api.Instr{Op: op.End}), api.ErrArg)
	for _, s := range []string{"DUP", "PUSH 1", "NEXT, END", "LOOP 2, DUP, END", "LOCK 1, NOT, UNLOCK 2, END", "END, END", "END, DUP", "JUMP 1, END, END", "JUMP 9, NEXT, END", "DUP, JUMP 9"} {
		checkErrorOf(t, s, api.ErrNest)
	}
	for _, s := range []string{"JUMP 1, END", "DUP, JUMP 199, END", "DUP, BRANCH 1, END", "PUSH 1, NOT, JUMP 1, LOOP 2, NEXT, END", "LOOP 2, NOT, JUMP 1, NEXT, END", "LOCK 0, DROP, BRANCH 1, UNLOCK 0, END"} {
		checkErrorOf(t, s, api.ErrJump)
	}
	checkErrorOf(t, "LOCK 1, BRANCH 0, LOOP 2, NEXT, JUMP 2, UNLOCK 1, END", api.ErrJump)
}

// P7.2, P7.3: one instruction that is not right, at each place of rows with no other error and with others.
func TestStacksWithOneThatIsNotRight(t *testing.T) {
	for _, wrong := range wrongOnes() {
		checkError(t, []api.Instr{wrong}, api.ErrArg)
		for _, s := range []string{"PUSH 1, DROP, END", "DUP, NOT, END", "JUMP 1, DUP, END", "NEXT, DUP"} {
			for p := range row(s) {
				l := row(s)
				l[p] = wrong
				checkError(t, l, api.ErrArg)
			}
		}
	}
}

// P7.2: an instruction that none hands a stack to, wherever it stands.
func TestStacksThatNoneHands(t *testing.T) {
	for _, s := range []string{
		"JUMP 1, PUSH 1, END", "JUMP 1, NEG, END", "JUMP 2, PUSH 1, DROP, END", "PUSH 1, JUMP 1, DROP, DROP, END",
		"JUMP 2, LOOP 2, NEXT, END", "JUMP 2, LOCK 1, UNLOCK 1, END", "JUMP 1, JUMP 0, END", "JUMP 1, JUMP 1, JUMP 0, END",
		"LOOP 2, JUMP 1, PUSH 1, NEXT, END", "LOCK 1, JUMP 1, GET 1 1, UNLOCK 1, END",
		aTruth + ", BRANCH 1, JUMP 2, JUMP 1, PUSH 1, END",
	} {
		checkErrorOf(t, s, api.ErrJump)
	}
	checkStacks(t, aTruth+", BRANCH 1, JUMP 1, JUMP 0, END", ",i,ii,b,,,", 2)
	checkStacks(t, aTruth+", BRANCH 1, JUMP 2, PUSH 1, DROP, END", ",i,ii,b,,,i,", 2)
}

// P7.2: a Jump and a Branch to the next instruction and farther.
func TestStacksOfJumps(t *testing.T) {
	checkStacks(t, "JUMP 0, END", ",", 0)
	checkStacks(t, "PUSH 1, JUMP 0, DROP, END", ",i,i,", 1)
	checkStacks(t, "JUMP 0, JUMP 0, JUMP 0, END", ",,,", 0)
	checkStacks(t, aTruth+", BRANCH 0, END", ",i,ii,b,", 2)
	checkStacks(t, "PUSH 7, "+aTruth+", BRANCH 0, DROP, END", ",i,ii,iii,ib,i,", 3)
	checkStacks(t, aTruth+", BRANCH 1, JUMP 0, END", ",i,ii,b,,", 2)
	checkStacks(t, aTruth+", BRANCH 2, PUSH 5, OUT 0, END", ",i,ii,b,,i,", 2)
	checkStacks(t, aTruth+", BRANCH 2, PUSH 5, JUMP 1, PUSH 6, OUT 0, END", ",i,ii,b,,i,,i,", 2)
	checkStacks(t, aTruth+", DUP, BRANCH 2, CAST, JUMP 2, DROP, IN 3, OUT 0, END", ",i,ii,b,bb,b,i,b,,i,", 2)
	far := aTruth + ", BRANCH 195, " + many(195, "JUMP 0") + "END"
	checkStacks(t, far, ",i,ii,b"+strings.Repeat(",", 196), 2)
	checkErrorOf(t, aTruth+", BRANCH 195, "+many(194, "JUMP 0")+"PUSH 1, END", api.ErrType)
}

// P7.2: a jump hands its stack to where it leads alone, and that is not what the ones between have.
func TestStacksOfJumpsOverOthers(t *testing.T) {
	s := "PUSH 1, PUSH 2, TWO 12, DUP, BRANCH 3, DROP, PUSH 1, JUMP 1, CAST, STOREL 0, END"
	checkStacks(t, s, ",i,ii,b,bb,b,,i,b,i,", 2)
	checkStacks(t, aTruth+", BRANCH 2, LOOP 2, NEXT, LOCK 1, UNLOCK 1, END", ",i,ii,b,,,,,", 2)
}

// P7.2: two, and three, that hand an instruction the same stack, and different ones.
func TestStacksThatTwoHand(t *testing.T) {
	half := func(a, b, behind string) string {
		l, m := row(a), row(b)
		return aTruth + ", BRANCH " + string(rune('1'+len(l))) + ", " + a + ", JUMP " + string(rune('0'+len(m))) + ", " + b + behind
	}
	for _, c := range []struct {
		a, b string
		e    api.Errno
	}{
		{"PUSH 1", "PUSH 2", api.OK},
		{"PUSH 1", "IN 2", api.OK},
		{"PUSH 1, NEG", "PUSH 2", api.OK},
		{"PUSH 1, PUSH 2", "IN 0, DUP", api.OK},
		{aTruth, "PUSH 3, DUP, TWO 12, NOT", api.OK},
		{"PUSH 1", "PUSH 2, DROP", api.ErrType},
		{"PUSH 1, DROP", "PUSH 2", api.ErrType},
		{"PUSH 1", "PUSH 2, DUP", api.ErrType},
		{"PUSH 1", aTruth, api.ErrType},
		{aTruth, "PUSH 1", api.ErrType},
		{"PUSH 1, " + aTruth, aTruth + ", PUSH 1", api.ErrType},
		{aTruth + ", PUSH 1, SWAP", "PUSH 1, " + aTruth, api.OK},
		{"PUSH 1, PUSH 1", "PUSH 1, " + aTruth, api.ErrType},
	} {
		l := row(half(c.a, c.b, ", END"))
		if c.e == api.OK {
			checkRow(t, l)
			if got, e := Stacks(l); e != api.OK || len(got) != len(l) {
				t.Errorf("Stacks(%s) = %q, %d", show(l), got, e)
			}
			continue
		}
		checkError(t, l, c.e)
	}
	three := "PUSH 9, " + aTruth + ", BRANCH 6, " + aTruth + ", BRANCH 1, "
	checkStacks(t, three+"JUMP 1, JUMP 0, DROP, END", ",i,ii,iii,ib,i,ii,iii,ib,i,i,i,", 3)
	checkErrorOf(t, "PUSH 9, "+aTruth+", BRANCH 7, "+aTruth+", BRANCH 2, DROP, JUMP 1, JUMP 0, END", api.ErrType)
	// The first and the last one hand the same, the one between another one.
	checkErrorOf(t, aTruth+", BRANCH 7, "+aTruth+", BRANCH 2, PUSH 1, JUMP 1, JUMP 0, END", api.ErrType)
}

// P7.2: a Next whose stack is that of its Loop, is longer, is shorter, differs in one value.
func TestStacksOfLoops(t *testing.T) {
	checkStacks(t, "LOOP 3, NEXT, END", ",,", 0)
	checkStacks(t, "PUSH 1, LOOP 3, PUSH 2, TWO 1, NEXT, STOREL 0, END", ",i,i,ii,i,i,", 2)
	checkStacks(t, "PUSH 1, LOOP 1, NEG, NEXT, END", ",i,i,i,i", 1)
	checkStacks(t, "PUSH 1, LOOP 1, DROP, IN 1, NEXT, END", ",i,i,,i,i", 1)
	checkStacks(t, "PUSH 1, LOOP 2, PUSH 1, LOOP 3, NEG, NEXT, DROP, NEXT, END", ",i,i,ii,ii,ii,ii,i,i", 2)
	checkStacks(t, aTruth+", PUSH 1, LOOP 2, SWAP, SWAP, NEXT, END", ",i,ii,b,bi,bi,ib,bi,bi", 2)
	checkStacks(t, "LOOP 2, LOCK 1, GET 1 0, PUT 1 0, UNLOCK 1, NEXT, END", ",,,i,,,", 1)
	for _, s := range []string{
		"LOOP 2, PUSH 1, NEXT, END", "PUSH 1, LOOP 2, DUP, NEXT, END", "LOOP 1, PUSH 1, NEXT, END", "LOOP 1000, PUSH 1, NEXT, END",
		"PUSH 1, LOOP 2, DROP, NEXT, END", "PUSH 1, LOOP 1, STOREL 0, NEXT, END",
		"PUSH 1, LOOP 2, DUP, TWO 11, NEXT, END", aTruth + ", LOOP 2, CAST, NEXT, END",
		aTruth + ", PUSH 1, LOOP 2, SWAP, NEXT, END", "PUSH 1, " + aTruth + ", LOOP 2, SWAP, NEXT, END",
		"PUSH 1, LOOP 2, LOOP 2, DROP, NEXT, PUSH 1, NEXT, END", "LOOP 2, PUSH 1, LOOP 2, NEXT, NEXT, END",
		aTruth + ", PUSH 1, LOOP 2, SWAP, CAST, SWAP, NEXT, END",
		"PUSH 1, LOOP 2, DROP, " + aTruth + ", NEXT, CAST, END",
	} {
		checkErrorOf(t, s, api.ErrType)
	}
	// An outer loop is not asked by an inner Next, nor another one that stands ahead.
	checkStacks(t, "LOOP 2, NEXT, PUSH 1, LOOP 2, NEXT, END", ",,,i,i,i", 1)
	checkStacks(t, "LOOP 2, PUSH 1, LOOP 2, NEXT, DROP, NEXT, END", ",,i,i,i,,", 1)
}

// P7.2: a jump within a loop to its Next.
func TestStacksOfJumpsToNext(t *testing.T) {
	checkStacks(t, "LOOP 2, "+aTruth+", BRANCH 2, PUSH 1, DROP, NEXT, END", ",,i,ii,b,,i,,", 2)
	checkStacks(t, "LOOP 2, JUMP 0, NEXT, END", ",,,", 0)
	checkErrorOf(t, "LOOP 2, "+aTruth+", BRANCH 1, PUSH 1, NEXT, END", api.ErrType)
	checkErrorOf(t, "LOOP 2, PUSH 9, "+aTruth+", BRANCH 1, JUMP 0, NEXT, END", api.ErrType)
	checkErrorOf(t, "LOOP 2, JUMP 1, PUSH 1, NEXT, END", api.ErrJump)
}

// takers is a line of every operation that takes something.
func takers() []string {
	return []string{"DROP", "DUP", "SWAP", "TWO 1", "TWO 11", "TWO 12", "NEG", "NOT", "BOTH", "EITHER", "CAST", "STOREL 0", "STORER 0", "OUT 0", "LOCK 0, PUT 0 0, UNLOCK 0", "BRANCH 0"}
}

// P7.2: every stack of up to three values ahead of every operation that takes something.
func TestStacksOfTakers(t *testing.T) {
	seen := map[api.Errno]int{}
	eachText(3, "ib", func(stack string) {
		for _, s := range takers() {
			l := row(strings.NewReplacer("i", "PUSH 1, ", "b", aTruth+", ").Replace(stack) + s + ", END")
			checkRow(t, l)
			_, e := Stacks(l)
			seen[e]++
		}
	})
	if seen[api.OK] == 0 || seen[api.ErrStack] == 0 || seen[api.ErrType] == 0 {
		t.Errorf("answers: %v", seen)
	}
}

// P7.2: fewer values than an instruction takes, whether these would fit or not.
func TestStacksOfTooFewValues(t *testing.T) {
	for _, s := range takers() {
		checkErrorOf(t, s+", END", api.ErrStack)
		checkErrorOf(t, "PUSH 1, DROP, "+s+", END", api.ErrStack)
	}
	for _, s := range []string{"SWAP", "TWO 1", "TWO 12", "BOTH", "EITHER"} {
		checkErrorOf(t, "PUSH 1, "+s+", END", api.ErrStack)
		checkErrorOf(t, aTruth+", "+s+", END", api.ErrStack)
	}
}

// P7.2: values that do not fit: the upper one, the lower one, both.
func TestStacksOfValuesThatDoNotFit(t *testing.T) {
	for _, s := range []string{"NOT", "CAST", "BRANCH 0"} {
		checkErrorOf(t, "PUSH 1, "+s+", END", api.ErrType)
		checkErrorOf(t, aTruth+", PUSH 1, "+s+", END", api.ErrType)
	}
	for _, s := range []string{"NEG", "STOREL 0", "STORER 0", "OUT 0", "LOCK 0, PUT 0 0, UNLOCK 0"} {
		checkErrorOf(t, aTruth+", "+s+", END", api.ErrType)
		checkErrorOf(t, "PUSH 1, "+aTruth+", "+s+", END", api.ErrType)
	}
	for _, s := range []string{"TWO 1", "TWO 11", "TWO 12"} {
		for _, ahead := range []string{aTruth + ", PUSH 1", "PUSH 1, " + aTruth, aTruth + ", DUP"} {
			checkErrorOf(t, ahead+", "+s+", END", api.ErrType)
		}
	}
	for _, s := range []string{"BOTH", "EITHER"} {
		for _, ahead := range []string{aTruth + ", PUSH 1", "PUSH 1, " + aTruth, "PUSH 1, DUP"} {
			checkErrorOf(t, ahead+", "+s+", END", api.ErrType)
		}
	}
}

// P7.2, P7.3: 16 values and 17 behind an instruction, of each that gives more than it takes.
func TestStacksThatAreFull(t *testing.T) {
	for _, s := range []string{"PUSH 1", "DUP", "LOADL 0", "LOADR 0", "IN 0", "LOCK 0, GET 0 0, UNLOCK 0"} {
		full := row(many(15, "PUSH 1") + s + ", END")
		checkRow(t, full)
		if got, e := Deep(full); got != 16 || e != api.OK {
			t.Errorf("Deep(%s) = %d, %d", show(full), got, e)
		}
		checkErrorOf(t, many(16, "PUSH 1")+s+", END", api.ErrStack)
		checkErrorOf(t, many(16, "PUSH 1")+s+", DROP, END", api.ErrStack)
	}
	for _, s := range []string{"NEG", "SWAP", "TWO 1", "STOREL 0", "DROP", "JUMP 0", "LOOP 2, NEXT", "LOCK 0, UNLOCK 0"} {
		full := row(many(16, "PUSH 1") + s + ", END")
		checkRow(t, full)
		if got, e := Deep(full); got != 16 || e != api.OK {
			t.Errorf("Deep(%s) = %d, %d", show(full), got, e)
		}
	}
	checkErrorOf(t, many(17, "PUSH 1")+"END", api.ErrStack)
	checkErrorOf(t, many(199, "PUSH 1")+"END", api.ErrStack)
	checkErrorOf(t, aTruth+", "+many(15, "DUP")+"DUP, END", api.ErrStack)
	checkRow(t, row(aTruth+", "+many(15, "DUP")+"END"))
}

// P7.2: an End with something on the stack.
func TestStacksAtEnd(t *testing.T) {
	checkStacks(t, "PUSH 1, PUSH 2, END", ",i,ii", 2)
	checkStacks(t, aTruth+", END", ",i,ii,b", 2)
	checkStacks(t, aTruth+", PUSH 3, END", ",i,ii,b,bi", 2)
	want := ""
	for n := range 17 {
		want += "," + strings.Repeat("i", n)
	}
	checkStacks(t, many(16, "PUSH 1")+"END", want[1:], 16)
}

// P7.3: the deepest stack at the first instruction, in the middle and at the last.
func TestDeep(t *testing.T) {
	for s, want := range map[string]int{
		"END": 0, "JUMP 0, END": 0, "LOOP 5, NEXT, END": 0, "LOCK 1, UNLOCK 1, END": 0,
		"PUSH 1, DROP, END": 1, "PUSH 1, PUSH 2, DROP, DROP, END": 2, aTruth + ", DROP, PUSH 1, END": 2,
		"PUSH 1, END": 1, "PUSH 1, PUSH 2, PUSH 3, END": 3, "PUSH 1, DROP, PUSH 1, DUP, END": 2,
		many(16, "PUSH 1") + many(16, "DROP") + "END":                               16,
		many(16, "PUSH 1") + many(15, "TWO 1") + "END":                              16,
		aTruth + ", BRANCH 7, " + many(3, "IN 0") + many(3, "DROP") + "JUMP 0, END": 3,
	} {
		if got, e := Deep(row(s)); got != want || e != api.OK {
			t.Errorf("Deep(%s) = %d, %d; want %d", s, got, e, want)
		}
		checkRow(t, row(s))
	}
	for n := range 17 {
		if got, e := Deep(row(many(n, "PUSH 1") + many(n, "DROP") + "END")); got != n || e != api.OK {
			t.Errorf("Deep of %d: %d, %d", n, got, e)
		}
	}
}

// P7.2, R2: the error of the first instruction that has one, whatever others have.
func TestErrorsInstructionByInstruction(t *testing.T) {
	checkErrorOf(t, "DUP, PUSH 1, NOT, END", api.ErrStack)
	checkErrorOf(t, "PUSH 1, NOT, DROP, DROP, END", api.ErrType)
	checkErrorOf(t, "JUMP 1, DUP, PUSH 1, NOT, END", api.ErrJump)
	checkErrorOf(t, "PUSH 1, NOT, JUMP 1, DUP, END", api.ErrType)
	checkErrorOf(t, "DROP, JUMP 1, DUP, END", api.ErrStack)
	checkErrorOf(t, many(17, "PUSH 1")+"NOT, END", api.ErrStack)
	checkErrorOf(t, many(16, "PUSH 1")+"NOT, PUSH 1, END", api.ErrType)
	checkErrorOf(t, "LOOP 2, DROP, NEXT, END", api.ErrStack)
	checkErrorOf(t, "LOOP 2, PUSH 1, NEXT, DROP, DROP, END", api.ErrType)
	checkErrorOf(t, "LOOP 2, PUSH 1, NEXT, JUMP 1, DUP, END", api.ErrType)
	checkErrorOf(t, aTruth+", BRANCH 2, DROP, PUSH 1, END", api.ErrStack)
}

// P7.2, R2: of one instruction's errors, the one that is named first.
func TestErrorsOfOneInstruction(t *testing.T) {
	// None hands it a stack, and it takes some.
	checkErrorOf(t, "JUMP 1, SWAP, END", api.ErrJump)
	checkErrorOf(t, "PUSH 1, JUMP 1, NOT, END", api.ErrJump)
	// None hands a Next a stack.
	checkErrorOf(t, "PUSH 1, LOOP 2, JUMP 1, JUMP 1, NEXT, END", api.ErrJump)
	// Two hand stacks that differ, and each has too few values, or none that fit.
	checkErrorOf(t, aTruth+", BRANCH 1, PUSH 1, SWAP, END", api.ErrType)
	checkErrorOf(t, aTruth+", BRANCH 1, PUSH 1, DROP, END", api.ErrType)
	checkErrorOf(t, many(15, "PUSH 1")+"PUSH 1, PUSH 1, TWO 11, BRANCH 1, PUSH 1, PUSH 1, END", api.ErrStack)
	checkErrorOf(t, many(13, "PUSH 1")+aTruth+", BRANCH 2, PUSH 1, PUSH 1, DUP, END", api.ErrType)
	// Too few values, and what is there does not fit.
	checkErrorOf(t, aTruth+", TWO 1, END", api.ErrStack)
	checkErrorOf(t, "PUSH 1, BOTH, END", api.ErrStack)
}

// pieces is instructions of which small rows are made.
func pieces() []api.Instr {
	return row("PUSH 1, DROP, DUP, SWAP, TWO 1, TWO 12, NOT, BOTH, CAST, STOREL 0, JUMP 0, JUMP 1, BRANCH 0, BRANCH 1, LOOP 2, NEXT")
}

// eachShort calls see with all rows of up to most pieces, and End.
func eachShort(most int, see func([]api.Instr)) {
	var longer func(l []api.Instr)
	longer = func(l []api.Instr) {
		see(append(slices.Clone(l), api.Instr{Op: op.End}))
		if len(l) < most {
			for _, i := range pieces() {
				longer(append(slices.Clone(l), i))
			}
		}
	}
	longer(nil)
}

// P7.2, P7.3: all rows of up to four pieces, alone and with a number, and a truth, ahead of them.
func TestAllShortRows(t *testing.T) {
	eachShort(4, func(l []api.Instr) {
		checkRow(t, l)
		checkRow(t, append(row("PUSH 1, PUSH 2, TWO 12, PUSH 7"), l...))
		checkRow(t, append(row("PUSH 7, PUSH 1, PUSH 2, TWO 12"), l...))
	})
}

// plain is instructions that are neither a jump nor the edge of a region, nor End.
func plain() []api.Instr {
	return slices.DeleteFunc(rightOnes(), func(i api.Instr) bool { return i.Op >= op.Jump })
}

// maker makes rows, out of plain ones, whose stacks are right.
type maker struct {
	r     *rand.Rand
	plain []api.Instr
	stack string
}

// one is an instruction that may come at the stack, and leaves at least low values alone.
func (m *maker) one(low int) []api.Instr {
	for {
		i := m.plain[m.r.Intn(len(m.plain))]
		if behind, e := wantBehind(i, m.stack); e == api.OK && len(m.stack)-len(ruleOf(i).takes) >= low {
			m.stack = behind
			return []api.Instr{i}
		}
	}
}

// same is a part that leaves the stack as it was.
func (m *maker) same(deep int) []api.Instr {
	stack := m.stack
	l := m.part(deep, len(stack))
	for len(m.stack) > len(stack) {
		l, m.stack = append(l, api.Instr{Op: op.Drop}), m.stack[:len(m.stack)-1]
	}
	return l
}

// part is a few instructions, with up to deep loops, locks and choices in one another.
func (m *maker) part(deep, low int) []api.Instr {
	var l []api.Instr
	for range m.r.Intn(5) {
		kind := m.r.Intn(8)
		switch {
		case deep == 0 || kind < 4:
			l = append(l, m.one(low)...)
		case kind == 4:
			l = append(append(append(l, api.Instr{Op: op.Loop, A: 1 + m.r.Intn(9)}), m.same(deep-1)...), api.Instr{Op: op.Next})
		case kind == 5:
			block := m.r.Intn(8)
			l = append(append(append(l, api.Instr{Op: op.Lock, A: block}), m.same(deep-1)...), api.Instr{Op: op.Unlock, A: block})
		case len(m.stack) <= 14:
			l = append(l, m.choice(deep-1)...)
		}
	}
	return l
}

// choice is a truth, and a Branch over one part, or to the other one of two.
func (m *maker) choice(deep int) []api.Instr {
	l := row("IN 0, IN 1, TWO 11")
	yes := m.same(deep)
	if m.r.Intn(2) == 0 {
		return append(append(l, api.Instr{Op: op.Branch, A: len(yes)}), yes...)
	}
	no := m.same(deep)
	l = append(append(l, api.Instr{Op: op.Branch, A: len(yes) + 1}), yes...)
	return append(append(l, api.Instr{Op: op.Jump, A: len(no)}), no...)
}

// some is a row whose stacks are right, of at most 200 instructions.
func some(r *rand.Rand) []api.Instr {
	ones := plain()
	for {
		m := maker{r: r, plain: ones}
		l := append(m.part(1+r.Intn(3), 0), m.part(2, 0)...)
		if len(l) < 200 {
			return append(l, api.Instr{Op: op.End})
		}
	}
}

// P7.2, P7.3: long rows, as they are and with one instruction that is another one, or is taken out; each kind of answer is among them.
func TestLongRows(t *testing.T) {
	r := rand.New(rand.NewSource(7))
	seen, deepest := map[api.Errno]int{}, 0
	see := func(l []api.Instr) {
		checkRow(t, l)
		deep, e := Deep(l)
		seen[e]++
		deepest = max(deepest, deep)
	}
	for range 5000 {
		l := some(r)
		if _, e := Stacks(l); e != api.OK {
			t.Errorf("Stacks(%s): %d", show(l), e)
		}
		see(l)
		other := slices.Clone(l)
		other[r.Intn(len(l))] = pieces()[r.Intn(len(pieces()))]
		see(other)
		at := r.Intn(len(l))
		see(slices.Delete(slices.Clone(l), at, at+1))
	}
	for _, e := range []api.Errno{api.OK, api.ErrNest, api.ErrJump, api.ErrStack, api.ErrType} {
		if seen[e] < 50 {
			t.Errorf("the answer %d was seen %d times", e, seen[e])
		}
	}
	if deepest < 8 {
		t.Errorf("no stack had more than %d values", deepest)
	}
}

// checkLaw holds P7.4 of one row, by what the package answers alone: to each that may come next, what is not taken goes as it was.
func checkLaw(t *testing.T, l []api.Instr) {
	t.Helper()
	stacks, e := Stacks(l)
	if e != api.OK {
		return
	}
	for q, i := range l {
		stays := len(stacks[q]) - len(Takes(i))
		behind := stacks[q][:stays] + Gives(i, stacks[q][stays:])
		for p := range l {
			if leads(l, q, p) && stacks[p] != behind {
				t.Errorf("%s: %q at %d, then %q at %d", show(l), stacks[q], q, stacks[p], p)
			}
		}
	}
}

// P7.4: what an instruction does not take stays as it was.
func TestLaw(t *testing.T) {
	eachShort(4, func(l []api.Instr) { checkLaw(t, append(row("PUSH 1, PUSH 2, TWO 12, PUSH 7"), l...)) })
	r := rand.New(rand.NewSource(77))
	for range 5000 {
		checkLaw(t, some(r))
	}
}

// P7.4: values that lie below all others change nothing above them, and stay.
func TestLawOfValuesBelow(t *testing.T) {
	r := rand.New(rand.NewSource(777))
	held := 0
	for range 5000 {
		l := some(r)
		stacks, _ := Stacks(l)
		deep, _ := Deep(l)
		for below, s := range map[string]string{"i": "PUSH 1", "b": aTruth, "bi": aTruth + ", PUSH 1", "iiii": "IN 0, DUP, DUP, DUP"} {
			ahead := row(s)
			got, e := Stacks(append(ahead, l...))
			if len(ahead)+len(l) > 200 || deep+len(below) > 16 {
				if e == api.OK {
					t.Errorf("%s behind %s is not refused", show(l), s)
				}
				continue
			}
			held++
			for p := range l {
				if e != api.OK || got[len(ahead)+p] != below+stacks[p] {
					t.Fatalf("%s behind %s: %q, %d", show(l), s, got, e)
				}
			}
		}
	}
	if held < 5000 {
		t.Errorf("just %d rows were asked", held)
	}
}

// R4: neither the row nor the room behind it is changed, and answers are new memory, with the room behind them.
func TestMemory(t *testing.T) {
	room := row("PUSH 1, LOOP 2, DUP, TWO 1, NEXT, OUT 0, END, DUP, DROP")
	kept := slices.Clone(room)
	l := room[:7]
	a, _ := Stacks(l)
	b, _ := Stacks(l)
	Deep(l)
	want := slices.Clone(b)
	for at := range a[:cap(a)] {
		a[:cap(a)][at] = "bbb"
	}
	again, _ := Stacks(l)
	if !slices.Equal(b, want) || !slices.Equal(again, want) {
		t.Errorf("another answer was changed: %q, %q; want %q", b, again, want)
	}
	if !slices.Equal(room, kept) {
		t.Errorf("the row handed in is now %s", show(room))
	}
	for p := range room {
		room[p] = api.Instr{}
	}
	checkError(t, l, api.ErrArg)
}
