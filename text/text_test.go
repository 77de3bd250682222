package text

import (
	"math/big"
	"math/rand"
	"regexp"
	"slices"
	"strings"
	"testing"

	"camshaft/api"
	"camshaft/op"
)

const (
	top    = 1<<63 - 1
	bottom = -1 << 63
)

// names is the operations' names, each at its number, written out; numbersOf is how many numbers those have that have some.
var (
	names     = strings.Split(" PUSH DROP DUP SWAP TWO NEG NOT BOTH EITHER CAST LOADL STOREL LOADR STORER IN OUT GET PUT JUMP BRANCH LOOP NEXT LOCK UNLOCK END", " ")
	numbersOf = map[string]int{
		"PUSH": 1, "TWO": 1, "LOADL": 1, "STOREL": 1, "LOADR": 1, "STORER": 1, "IN": 1, "OUT": 1,
		"JUMP": 1, "BRANCH": 1, "LOOP": 1, "LOCK": 1, "UNLOCK": 1, "GET": 2, "PUT": 2,
	}
)

var numberForm = regexp.MustCompile(`^(0|-?[1-9][0-9]*)\z`)

// wantNumber is P5.2 again, by numbers without bounds.
func wantNumber(s string) (int, api.Errno) {
	if !numberForm.MatchString(s) {
		return 0, api.ErrForm
	}
	n, _ := new(big.Int).SetString(s, 10)
	if !n.IsInt64() {
		return 0, api.ErrForm
	}
	return int(n.Int64()), api.OK
}

// wantLine is P5.1's line again.
func wantLine(i api.Instr) string {
	if !op.Right(i) {
		return ""
	}
	s := names[i.Op]
	for _, n := range []int{i.A, i.B}[:numbersOf[s]] {
		s += " " + big.NewInt(int64(n)).String()
	}
	return s + "\n"
}

// wantLines is the lines of a row that is right and short.
func wantLines(l []api.Instr) string {
	s := ""
	for _, i := range l {
		s += wantLine(i)
	}
	return s
}

// wantOne is the instruction of a line without its byte 10.
func wantOne(line string) (api.Instr, api.Errno) {
	parts := strings.Split(line, " ")
	operation := slices.Index(names[1:], parts[0]) + 1
	if operation == 0 || len(parts) != 1+numbersOf[parts[0]] {
		return api.Instr{}, api.ErrForm
	}
	numbers := []int{operation}
	for _, part := range parts[1:] {
		n, e := wantNumber(part)
		if e != api.OK {
			return api.Instr{}, e
		}
		numbers = append(numbers, n)
	}
	numbers = append(numbers, 0, 0)
	i := api.Instr{Op: numbers[0], A: numbers[1], B: numbers[2]}
	if !op.Right(i) {
		return api.Instr{}, api.ErrOp
	}
	return i, api.OK
}

// wantParse is P5.3 again.
func wantParse(s string) ([]api.Instr, api.Errno) {
	var l []api.Instr
	for at := 0; at < len(s); {
		if len(l) == 200 {
			return nil, api.ErrBig
		}
		end := at
		for end < len(s) && s[end] != 10 {
			end++
		}
		if end == len(s) {
			return nil, api.ErrForm
		}
		i, e := wantOne(s[at:end])
		if e != api.OK {
			return nil, e
		}
		l, at = append(l, i), end+1
	}
	return l, api.OK
}

func checkNumber(t *testing.T, s string, n int, e api.Errno) {
	t.Helper()
	if gotN, gotE := Number(s); gotN != n || gotE != e {
		t.Errorf("Number(%q) = %d, %d; want %d, %d", s, gotN, gotE, n, e)
	}
}

func checkParse(t *testing.T, s string, l []api.Instr, e api.Errno) {
	t.Helper()
	if gotL, gotE := Parse(s); !slices.Equal(gotL, l) || gotE != e {
		t.Errorf("Parse(%q) = %v, %d; want %v, %d", s, gotL, gotE, l, e)
	}
}

func checkShow(t *testing.T, l []api.Instr, s string) {
	t.Helper()
	if got := Show(l); got != s {
		t.Errorf("Show(%v) = %q, want %q", l, got, s)
	}
}

// all is instructions of every operation, and of none, with numbers at and beside the edges; right is those that are right.
var (
	all   = makeAll()
	right = slices.DeleteFunc(slices.Clone(all), func(i api.Instr) bool { return !op.Right(i) })
)

func makeAll() []api.Instr {
	var l []api.Instr
	numbers := []int{0, 1, 2, 6, 7, 8, 9, 10, 12, 13, 15, 16, 99, 100, 199, 200, 999, 1000, 1001, -1, -9, -10, -1000, 1 << 32, top, top - 1, bottom, bottom + 1}
	ops := []int{0, -1, 26, 27, 256 + op.Push, 1<<32 + op.End, top, bottom}
	for o := 1; o <= 25; o++ {
		ops = append(ops, o)
	}
	for _, o := range ops {
		for _, a := range numbers {
			for _, b := range numbers {
				l = append(l, api.Instr{Op: o, A: a, B: b})
			}
		}
	}
	return l
}

// row is a row of so many right instructions of many kinds.
func row(many int) []api.Instr {
	var l []api.Instr
	for at := range many {
		l = append(l, right[at*37%len(right)])
	}
	return l
}

// written is lines that are written out, each with its instruction.
func written() map[string]api.Instr {
	return map[string]api.Instr{
		"PUSH 5\n":                    {Op: op.Push, A: 5},
		"PUSH 0\n":                    {Op: op.Push},
		"PUSH -1\n":                   {Op: op.Push, A: -1},
		"PUSH 9223372036854775807\n":  {Op: op.Push, A: top},
		"PUSH -9223372036854775808\n": {Op: op.Push, A: bottom},
		"DROP\n":                      {Op: op.Drop},
		"DUP\n":                       {Op: op.Dup},
		"SWAP\n":                      {Op: op.Swap},
		"TWO 1\n":                     {Op: op.Two, A: 1},
		"TWO 12\n":                    {Op: op.Two, A: 12},
		"NEG\n":                       {Op: op.Neg},
		"NOT\n":                       {Op: op.Not},
		"BOTH\n":                      {Op: op.Both},
		"EITHER\n":                    {Op: op.Either},
		"CAST\n":                      {Op: op.Cast},
		"LOADL 0\n":                   {Op: op.LoadL},
		"STOREL 7\n":                  {Op: op.StoreL, A: 7},
		"LOADR 3\n":                   {Op: op.LoadR, A: 3},
		"STORER 4\n":                  {Op: op.StoreR, A: 4},
		"IN 15\n":                     {Op: op.In, A: 15},
		"OUT 10\n":                    {Op: op.Out, A: 10},
		"GET 0 7\n":                   {Op: op.Get, A: 0, B: 7},
		"GET 0 0\n":                   {Op: op.Get},
		"PUT 7 1\n":                   {Op: op.Put, A: 7, B: 1},
		"JUMP 199\n":                  {Op: op.Jump, A: 199},
		"BRANCH 0\n":                  {Op: op.Branch},
		"LOOP 1\n":                    {Op: op.Loop, A: 1},
		"LOOP 1000\n":                 {Op: op.Loop, A: 1000},
		"NEXT\n":                      {Op: op.Next},
		"LOCK 2\n":                    {Op: op.Lock, A: 2},
		"UNLOCK 2\n":                  {Op: op.Unlock, A: 2},
		"END\n":                       {Op: op.End},
	}
}

// P5.1, P5.3: lines that are written out.
func TestLinesWrittenOut(t *testing.T) {
	for s, i := range written() {
		if Line(i) != s {
			t.Errorf("Line(%v) = %q, want %q", i, Line(i), s)
		}
		checkShow(t, []api.Instr{i}, s)
		checkParse(t, s, []api.Instr{i}, api.OK)
	}
}

// P5.1: the line of each right instruction; of others none.
func TestLine(t *testing.T) {
	for _, i := range all {
		if s := Line(i); s != wantLine(i) {
			t.Errorf("Line(%v) = %q, want %q", i, s, wantLine(i))
		}
	}
	for _, i := range []api.Instr{{}, {Op: 26}, {Op: -1}, {Op: op.End, A: 1}, {Op: op.End, B: 1}, {Op: op.Push, B: 1}, {Op: op.Loop}, {Op: op.Loop, A: 1001}, {Op: op.Get, A: 8}, {Op: op.Put, B: 8}, {Op: op.Two}} {
		if s := Line(i); s != "" {
			t.Errorf("Line(%v), that is not right, = %q", i, s)
		}
	}
}

// P5.1, P5.3: rows that are written out, the chapter's example first.
func TestRowsWrittenOut(t *testing.T) {
	for _, c := range []struct {
		s string
		l []api.Instr
	}{
		{"PUSH 5\nEND\n", []api.Instr{{Op: op.Push, A: 5}, {Op: op.End}}},
		{"", nil},
		{"", []api.Instr{}},
		{"LOCK 1\nGET 1 2\nUNLOCK 1\n", []api.Instr{{Op: op.Lock, A: 1}, {Op: op.Get, A: 1, B: 2}, {Op: op.Unlock, A: 1}}},
		{"DROP\nDROP\nDROP\n", []api.Instr{{Op: op.Drop}, {Op: op.Drop}, {Op: op.Drop}}},
	} {
		checkShow(t, c.l, c.s)
		checkParse(t, c.s, c.l, api.OK)
	}
}

// P5.1: rows of none to 200 instructions; those of more have no lines.
func TestShow(t *testing.T) {
	for many := range 201 {
		checkShow(t, row(many), wantLines(row(many)))
	}
	for _, many := range []int{201, 202, 400, 1000} {
		checkShow(t, row(many), "")
	}
	checkShow(t, nil, "")
}

// P5.1: a row with one that is not right, at any place, has no lines.
func TestShowWithOneThatIsNotRight(t *testing.T) {
	for _, wrong := range []api.Instr{{}, {Op: 26}, {Op: -1}, {Op: op.End, A: 1}, {Op: op.Push, B: 1}, {Op: op.Loop}, {Op: op.Put, B: 8}} {
		for _, many := range []int{1, 2, 5, 200, 201} {
			for at := range many {
				l := row(many)
				l[at] = wrong
				checkShow(t, l, "")
			}
		}
	}
}

// P5.2: numbers whose texts are written out, and the edges.
func TestNumberWrittenOut(t *testing.T) {
	for s, n := range map[string]int{
		"0": 0, "1": 1, "9": 9, "10": 10, "100": 100, "1000": 1000, "907": 907,
		"-1": -1, "-9": -9, "-10": -10, "-100": -100,
		"9223372036854775807": top, "9223372036854775806": top - 1,
		"-9223372036854775808": bottom, "-9223372036854775807": bottom + 1,
		"4294967296": 1 << 32, "-4294967297": -1<<32 - 1,
	} {
		checkNumber(t, s, n, api.OK)
	}
}

// P5.2: texts that are no number's, and 0 beside the error.
func TestNumberOfWrongTexts(t *testing.T) {
	for _, s := range []string{
		"", "-", "+", "--1", "-+1", "+-1", "+1", "+0", "-0", "00", "01", "-01", "-00", "007", "0x1", "0x", "0b1", "0o7", "1_000", "1e3",
		" ", " 1", "1 ", "1 2", "- 1", "1-", "1-2", "-1-", "\t1", "1\n", "1\x00", "\x001", "a", "1a", "a1", "-a", "F", "1.0", ".5", "1,0",
		"9223372036854775808", "-9223372036854775809", "9223372036854775810", "9999999999999999999", "-9999999999999999999",
		"18446744073709551615", "18446744073709551616", "18446744073709551617", "-18446744073709551616", "10000000000000000000", "92233720368547758070",
		"09223372036854775807", "-09223372036854775808", "\u0661", "\u00b2", "\uff11", "\xff", "-\xff", "\u22121",
		strings.Repeat("9", 1000), strings.Repeat("0", 1000), "-" + strings.Repeat("1", 1000), strings.Repeat("-", 1000),
	} {
		checkNumber(t, s, 0, api.ErrForm)
	}
}

// P5.2: each single byte, and each pair of bytes.
func TestNumberOfShortTexts(t *testing.T) {
	for a := range 256 {
		one := string([]byte{byte(a)})
		n, e := wantNumber(one)
		checkNumber(t, one, n, e)
		for b := range 256 {
			two := string([]byte{byte(a), byte(b)})
			n, e := wantNumber(two)
			checkNumber(t, two, n, e)
		}
	}
}

// P5.2: numbers of all sizes, and texts beside theirs.
func TestNumber(t *testing.T) {
	r := rand.New(rand.NewSource(51))
	for range 20000 {
		want := int(r.Uint64()) >> r.Intn(64)
		s := big.NewInt(int64(want)).String()
		checkNumber(t, s, want, api.OK)
		b := []byte(s)
		b[r.Intn(len(b))] = "0123456789-+ a"[r.Intn(14)]
		n, e := wantNumber(string(b))
		checkNumber(t, string(b), n, e)
		s += string([]byte{"0123456789-+ a"[r.Intn(14)]})
		n, e = wantNumber(s)
		checkNumber(t, s, n, e)
	}
	near := new(big.Int).Lsh(big.NewInt(1), 63)
	for d := int64(-300); d <= 300; d++ {
		for _, sign := range []int64{1, -1} {
			s := new(big.Int).Mul(new(big.Int).Add(near, big.NewInt(d)), big.NewInt(sign)).String()
			n, e := wantNumber(s)
			checkNumber(t, s, n, e)
		}
	}
}

// P5.3: what is no line, as the first one and behind others, and nothing beside the error.
func TestParseOfNoLines(t *testing.T) {
	for _, s := range []string{
		"\n", " \n", "  \n", "\x00\n", "\r\n", "\t\n", "5\n", "-1\n",
		"END", "PUSH 5", "P", " ", "END\r\n", "\nEND\n", "END\x00\n",
		"end\n", "End\n", "push 5\n", "Push 5\n", "EN\n", "ENDE\n", "EEND\n", "X\n", "PUSHH 5\n", "PUS 5\n", "PUSH5\n", "END END\n", "DROPDUP\n", "LOAD 1\n", "STORE 1\n",
		" END\n", "END \n", "END  \n", " PUSH 5\n", "PUSH 5 \n", "PUSH  5\n", "PUSH\t5\n", "PUSH \n", "PUSH  \n", "PUSH 5\t\n", "PUSH 5\r\n", "PUSH,5\n",
		"PUSH\n", "PUSH 5 6\n", "PUSH 5 0\n", "END 0\n", "END 1\n", "NEXT 0\n", "GET\n", "GET 1\n", "GET 1 \n", "GET 1  2\n", "GET  1 2\n", "GET 1 2 \n", "GET 1 2 3\n", "GET 1 2 0\n", "PUT 1\n", "PUT 1 2 3\n", "LOOP\n", "LOOP 1 0\n",
		"PUSH 01\n", "PUSH 00\n", "PUSH -0\n", "PUSH -\n", "PUSH +1\n", "PUSH a\n", "PUSH 1a\n", "PUSH 0x1\n", "PUSH --1\n", "PUSH 1-\n", "PUSH 1_0\n",
		"PUSH 9223372036854775808\n", "PUSH -9223372036854775809\n", "PUSH 18446744073709551617\n", "LOOP 18446744073709551617\n",
		"GET a 1\n", "GET 1 a\n", "GET 01 1\n", "GET 1 01\n", "GET -0 1\n", "GET 1 -0\n", "GET 1,2\n",
		"1 PUSH\n", "0\n", "26\n", "1 5\n", "PUSH PUSH\n",
	} {
		for _, many := range []int{0, 1, 7, 199} {
			checkParse(t, wantLines(row(many))+s, nil, api.ErrForm)
		}
		checkParse(t, wantLines(row(200))+s, nil, api.ErrBig)
	}
}

// P5.3: lines of instructions that are not right.
func TestParseOfWrongInstructions(t *testing.T) {
	for _, s := range []string{
		"TWO 0\n", "TWO 13\n", "TWO -1\n", "LOADL 8\n", "LOADL -1\n", "STOREL 8\n", "LOADR 8\n", "STORER 8\n", "IN 16\n", "OUT 16\n", "OUT -1\n",
		"GET 8 0\n", "GET 0 8\n", "GET -1 0\n", "PUT 0 -1\n", "PUT 8 8\n", "JUMP 200\n", "JUMP -1\n", "BRANCH 200\n", "LOOP 0\n", "LOOP 1001\n", "LOOP -1\n", "LOCK 8\n", "UNLOCK -1\n",
		"LOOP 9223372036854775807\n", "LOCK -9223372036854775808\n", "IN 256\n", "LOCK 4294967296\n",
	} {
		for _, many := range []int{0, 1, 7, 199} {
			checkParse(t, wantLines(row(many))+s, nil, api.ErrOp)
		}
		checkParse(t, wantLines(row(200))+s, nil, api.ErrBig)
	}
}

// P5.3: of a line that is none and an instruction that is not right, the one that stands first is told; in one line, that it is none.
func TestParseErrorsInOrder(t *testing.T) {
	for s, e := range map[string]api.Errno{
		"LOOP 0\nX\n":     api.ErrOp,
		"X\nLOOP 0\n":     api.ErrForm,
		"LOOP 0\n\n":      api.ErrOp,
		"\nLOOP 0\n":      api.ErrForm,
		"LOOP 0\nEND":     api.ErrOp,
		"END\nLOOP 0\nX":  api.ErrOp,
		"END\nX\nLOOP 0":  api.ErrForm,
		"LOOP 0":          api.ErrForm,
		"LOOP 0 \n":       api.ErrForm,
		"LOOP 0 0\n":      api.ErrForm,
		"LOOP 1001 1\n":   api.ErrForm,
		"GET 8\n":         api.ErrForm,
		"GET 8 x\n":       api.ErrForm,
		"GET x 8\n":       api.ErrForm,
		"GET 8 8 8\n":     api.ErrForm,
		"GET 8 8 \n":      api.ErrForm,
		"GET 8 8":         api.ErrForm,
		"GET 1 8\nGET 1":  api.ErrOp,
		"END\nEND\nEN":    api.ErrForm,
		"END\n\n":         api.ErrForm,
		"END\n\nEND\n":    api.ErrForm,
		"END\nEND\nLOOP":  api.ErrForm,
		"END 0\nLOOP 0\n": api.ErrForm,
	} {
		checkParse(t, s, nil, e)
	}
}

// P5.3: none to 200 lines are read; of more, the 201st is not looked at.
func TestParse(t *testing.T) {
	for many := range 201 {
		checkParse(t, wantLines(row(many)), row(many), api.OK)
	}
	full := strings.Repeat("END\n", 200)
	checkParse(t, full, slices.Repeat([]api.Instr{{Op: op.End}}, 200), api.OK)
	for _, behind := range []string{"END\n", "E", "END", "\n", " ", "\x00", "x\n", "LOOP 0\n", "LOOP 0", full, strings.Repeat(full, 50), strings.Repeat("x", 100000)} {
		checkParse(t, full+behind, nil, api.ErrBig)
	}
	// An error among the first 200 is met ahead of those that are too many.
	almost := strings.Repeat("END\n", 199)
	for _, many := range []int{0, 1, 200} {
		checkParse(t, almost+"LOOP 0\n"+strings.Repeat("END\n", many), nil, api.ErrOp)
		checkParse(t, almost+"\n"+strings.Repeat("END\n", many), nil, api.ErrForm)
	}
	checkParse(t, almost+"END", nil, api.ErrForm)
}

// P5.3: a byte of lines put in, left out or turned into another one.
func TestParseOfTurnedLines(t *testing.T) {
	r := rand.New(rand.NewSource(53))
	const bytes = " \n\r\t-+0123789ENDPUSHGTLOx\x00\xff"
	for range 60000 {
		b := []byte(wantLines(row(40)[r.Intn(30):][:1+r.Intn(5)]))
		for range 1 + r.Intn(2) {
			at := r.Intn(len(b))
			other := bytes[r.Intn(len(bytes))]
			switch r.Intn(3) {
			case 0:
				b[at] = other
			case 1:
				b = slices.Insert(b, at, other)
			case 2:
				b = slices.Delete(b, at, at+1)
			}
		}
		l, e := wantParse(string(b))
		checkParse(t, string(b), l, e)
	}
}

// P5.3: lines of names, blanks and numbers in any order.
func TestParseOfParts(t *testing.T) {
	r := rand.New(rand.NewSource(54))
	parts := append(slices.Clone(names), "\n", "\n", "\n", " ", " ", "0", "1", "7", "8", "-1", "01", "-0", "1000", "1001", "9223372036854775808")
	for range 60000 {
		s := names[r.Intn(len(names))]
		for range r.Intn(5) {
			if r.Intn(3) > 0 {
				s += " "
			}
			s += parts[r.Intn(len(parts))]
		}
		s += "\n"
		l, e := wantParse(s)
		checkParse(t, s, l, e)
	}
}

// P5.1, R4: a row that is handed in stays as it is, and the room behind it.
func TestShowChangesNothing(t *testing.T) {
	l := row(20)
	Show(l[:10])
	if !slices.Equal(l, row(20)) {
		t.Error("a row was changed")
	}
}

// P5.3, R4: two answers of the same lines share no memory.
func TestParseAnswersNewMemory(t *testing.T) {
	s := wantLines(row(5))
	a, _ := Parse(s)
	b, _ := Parse(s)
	a[0] = api.Instr{}
	a = append(a, api.Instr{Op: op.End})
	if c, _ := Parse(s); !slices.Equal(b, row(5)) || !slices.Equal(c, row(5)) || len(a) != 6 {
		t.Errorf("another answer was changed: %v, %v", b, c)
	}
}

// P5.4: what is shown is read as it was.
func TestLawOfShowAndParse(t *testing.T) {
	for _, i := range right {
		checkParse(t, Line(i), []api.Instr{i}, api.OK)
	}
	for many := range 201 {
		checkParse(t, Show(row(many)), row(many), api.OK)
	}
	r := rand.New(rand.NewSource(55))
	for range 5000 {
		i := api.Instr{Op: op.Push, A: int(r.Uint64()) >> r.Intn(64)}
		checkParse(t, Line(i), []api.Instr{i}, api.OK)
	}
}

// P5.4: what is read is shown as it was, byte by byte.
func TestLawOfParseAndShow(t *testing.T) {
	checkLaw := func(s string) bool {
		l, e := Parse(s)
		if e == api.OK && Show(l) != s {
			t.Errorf("%q is read as %v, that is shown as %q", s, l, Show(l))
		}
		return e == api.OK
	}
	for many := range 201 {
		checkLaw(wantLines(row(many)))
	}
	r := rand.New(rand.NewSource(56))
	read := 0
	for range 30000 {
		b := []byte(wantLines(row(40)[r.Intn(30):][:2]))
		b[r.Intn(len(b))] = " \n-+0123456789"[r.Intn(14)]
		if checkLaw(string(b)) {
			read++
		}
	}
	if read < 1000 {
		t.Errorf("only %d texts were read", read)
	}
}
