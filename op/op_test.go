package op

import (
	"math/rand"
	"slices"
	"strings"
	"testing"

	"camshaft/api"
	"camshaft/code"
)

const (
	top    = 1<<63 - 1
	bottom = -1 << 63
)

// kind is what the chapter says of an operation: its name, and the least and the greatest one of each number it has.
type kind struct {
	op   int
	name string
	has  []span
}

type span struct{ least, most int }

// kinds is the chapter's words again, written out.
var kinds = writeKinds()

func writeKinds() []kind {
	eight, sixteen, places := span{0, 7}, span{0, 15}, span{0, 199}
	return []kind{
		{Push, "PUSH", []span{{bottom, top}}},
		{Drop, "DROP", nil},
		{Dup, "DUP", nil},
		{Swap, "SWAP", nil},
		{Two, "TWO", []span{{1, 12}}},
		{Neg, "NEG", nil},
		{Not, "NOT", nil},
		{Both, "BOTH", nil},
		{Either, "EITHER", nil},
		{Cast, "CAST", nil},
		{LoadL, "LOADL", []span{eight}},
		{StoreL, "STOREL", []span{eight}},
		{LoadR, "LOADR", []span{eight}},
		{StoreR, "STORER", []span{eight}},
		{In, "IN", []span{sixteen}},
		{Out, "OUT", []span{sixteen}},
		{Get, "GET", []span{eight, eight}},
		{Put, "PUT", []span{eight, eight}},
		{Jump, "JUMP", []span{places}},
		{Branch, "BRANCH", []span{places}},
		{Loop, "LOOP", []span{{1, 1000}}},
		{Next, "NEXT", nil},
		{Lock, "LOCK", []span{eight}},
		{Unlock, "UNLOCK", []span{eight}},
		{End, "END", nil},
	}
}

// kindOf is an operation's kind, and whether there is one.
func kindOf(op int) (kind, bool) {
	for _, k := range kinds {
		if k.op == op {
			return k, true
		}
	}
	return kind{}, false
}

// noOps is numbers that are no operation, some of them one in their low bits.
func noOps() []int {
	return []int{0, -1, -25, -26, 26, 27, 100, 128 + Push, 255, 256 + Push, 256 + End, 1<<32 + Drop, 1<<63 - 256 + Push, top, bottom, bottom + Push}
}

// numbers is each kind's least and greatest number, those beside them, and some far from all.
func numbers() []int {
	l := []int{-1 << 32, -1000, -64, 63, 64, 127, 128, 255, 256, 257, 1<<32 + 1, 1 << 40, top - 1, top, bottom, bottom + 1}
	for n := -3; n <= 20; n++ {
		l = append(l, n)
	}
	for _, edge := range []int{199, 1000} {
		l = append(l, edge-1, edge, edge+1, -edge)
	}
	return l
}

// wantRight is the chapter's word of a right instruction again.
func wantRight(i api.Instr) bool {
	k, is := kindOf(i.Op)
	if !is {
		return false
	}
	for at, n := range []int{i.A, i.B} {
		if at >= len(k.has) {
			is = is && n == 0
		} else {
			is = is && n >= k.has[at].least && n <= k.has[at].most
		}
	}
	return is
}

// all is instructions of every operation, and of none, with all numbers at and beside the edges; right is those that are right.
var (
	all   = makeAll()
	right = slices.DeleteFunc(slices.Clone(all), func(i api.Instr) bool { return !wantRight(i) })
)

func makeAll() []api.Instr {
	var l []api.Instr
	ops := noOps()
	for op := 1; op <= 25; op++ {
		ops = append(ops, op)
	}
	for _, op := range ops {
		for _, a := range numbers() {
			for _, b := range numbers() {
				l = append(l, api.Instr{Op: op, A: a, B: b})
			}
		}
	}
	return l
}

// wantBytes is the first part of P4.2 again.
func wantBytes(i api.Instr) string {
	if !wantRight(i) {
		return ""
	}
	s := string([]byte{byte(i.Op)})
	k, _ := kindOf(i.Op)
	for at := range k.has {
		s += code.Put([]int{i.A, i.B}[at])
	}
	return s
}

// wantDecode is the second part of P4.2 again: the errors in the order in which they are named.
func wantDecode(s string, at int) (api.Instr, int, api.Errno) {
	var read []int
	var is bool
	behind := at
	if at >= 0 && at < len(s) {
		var k kind
		k, is = kindOf(int(s[at]))
		behind++
		for range k.has {
			n, to, e := code.Get(s, behind)
			if e != api.OK {
				return api.Instr{}, 0, e
			}
			read, behind = append(read, n), to
		}
	}
	if at < 0 || at > len(s) {
		return api.Instr{}, 0, api.ErrArg
	}
	if at == len(s) {
		return api.Instr{}, 0, api.ErrShort
	}
	read = append(read, 0, 0)
	i := api.Instr{Op: int(s[at]), A: read[0], B: read[1]}
	if !is || !wantRight(i) {
		return api.Instr{}, 0, api.ErrOp
	}
	return i, behind, api.OK
}

func checkRight(t *testing.T, i api.Instr, is bool) {
	t.Helper()
	if Right(i) != is {
		t.Errorf("Right(%v) = %v, want %v", i, Right(i), is)
	}
}

func checkDecode(t *testing.T, s string, at int, i api.Instr, behind int, e api.Errno) {
	t.Helper()
	if gotI, gotBehind, gotE := Decode(s, at); gotI != i || gotBehind != behind || gotE != e {
		t.Errorf("Decode(%q, %d) = %v, %d, %d; want %v, %d, %d", s, at, gotI, gotBehind, gotE, i, behind, e)
	}
}

func checkRefused(t *testing.T, s string, at int, e api.Errno) {
	t.Helper()
	checkDecode(t, s, at, api.Instr{}, 0, e)
}

func checkRead(t *testing.T, s string, l []api.Instr, e api.Errno) {
	t.Helper()
	if gotL, gotE := Read(s); !slices.Equal(gotL, l) || gotE != e {
		t.Errorf("Read(%q) = %v, %d; want %v, %d", s, gotL, gotE, l, e)
	}
}

// P4.1: operations are numbered one behind the other.
func TestOperationsAreNumberedInOrder(t *testing.T) {
	for at, k := range kinds {
		if k.op != at+1 {
			t.Errorf("%s has the number %d, want %d", k.name, k.op, at+1)
		}
	}
	if len(kinds) != 25 || End != 25 {
		t.Errorf("%d operations, the last one %d", len(kinds), End)
	}
}

// P4.1: names and how many numbers, of each operation and of none.
func TestNameAndArgs(t *testing.T) {
	for _, k := range kinds {
		if Name(k.op) != k.name || Args(k.op) != len(k.has) {
			t.Errorf("of %d: %q, %d; want %q, %d", k.op, Name(k.op), Args(k.op), k.name, len(k.has))
		}
	}
	for _, op := range noOps() {
		if Name(op) != "" || Args(op) != -1 {
			t.Errorf("of %d, that is none: %q, %d", op, Name(op), Args(op))
		}
	}
}

// P4.1: each kind's least and greatest number, and one beyond each.
func TestRightAtEdges(t *testing.T) {
	for _, k := range kinds {
		for at, s := range k.has {
			with := func(n int) api.Instr {
				i := api.Instr{Op: k.op, A: k.has[0].least}
				if at == 0 {
					i.A = n
				} else {
					i.B = n
				}
				return i
			}
			checkRight(t, with(s.least), true)
			checkRight(t, with(s.most), true)
			if s.least > bottom {
				checkRight(t, with(s.least-1), false)
			}
			if s.most < top {
				checkRight(t, with(s.most+1), false)
			}
		}
	}
}

// P4.1: a number that an instruction has not must be 0.
func TestRightOfNumbersThatItHasNot(t *testing.T) {
	for _, k := range kinds {
		least := 0
		if len(k.has) > 0 {
			least = k.has[0].least
		}
		for _, n := range []int{-1, 1, 7, 256, 1 << 32, top, bottom} {
			if len(k.has) < 2 {
				checkRight(t, api.Instr{Op: k.op, A: least, B: n}, false)
			}
			if len(k.has) < 1 {
				checkRight(t, api.Instr{Op: k.op, A: n}, false)
				checkRight(t, api.Instr{Op: k.op, A: n, B: n}, false)
			}
		}
		checkRight(t, api.Instr{Op: k.op, A: least}, true)
	}
}

// P4.1: any number of Push.
func TestRightOfPush(t *testing.T) {
	for _, n := range numbers() {
		checkRight(t, api.Instr{Op: Push, A: n}, true)
	}
	r := rand.New(rand.NewSource(4))
	for range 1000 {
		checkRight(t, api.Instr{Op: Push, A: int(r.Uint64())}, true)
	}
}

// P4.1: instructions of every operation and of none, against the words.
func TestRight(t *testing.T) {
	checkRight(t, api.Instr{}, false)
	for _, i := range all {
		checkRight(t, i, wantRight(i))
	}
	for op := -300; op <= 300; op++ {
		checkRight(t, api.Instr{Op: op, A: 1}, wantRight(api.Instr{Op: op, A: 1}))
		checkRight(t, api.Instr{Op: op}, wantRight(api.Instr{Op: op}))
	}
}

// written is instructions with their bytes written out, the chapter's example first.
func written() map[string]api.Instr {
	return map[string]api.Instr{
		"\x01\x01": {Op: Push, A: -1},
		"\x01\x00": {Op: Push},
		"\x01\xff\xff\xff\xff\xff\xff\xff\xff\xff\x01": {Op: Push, A: bottom},
		"\x01\xfe\xff\xff\xff\xff\xff\xff\xff\xff\x01": {Op: Push, A: top},
		"\x02":         {Op: Drop},
		"\x05\x02":     {Op: Two, A: 1},
		"\x05\x18":     {Op: Two, A: 12},
		"\x0a":         {Op: Cast},
		"\x0b\x00":     {Op: LoadL},
		"\x0e\x0e":     {Op: StoreR, A: 7},
		"\x0f\x1e":     {Op: In, A: 15},
		"\x11\x00\x0e": {Op: Get, A: 0, B: 7},
		"\x12\x0e\x02": {Op: Put, A: 7, B: 1},
		"\x13\x8e\x03": {Op: Jump, A: 199},
		"\x14\x7e":     {Op: Branch, A: 63},
		"\x15\x02":     {Op: Loop, A: 1},
		"\x15\xd0\x0f": {Op: Loop, A: 1000},
		"\x17\x06":     {Op: Lock, A: 3},
		"\x18\x06":     {Op: Unlock, A: 3},
		"\x19":         {Op: End},
	}
}

// P4.2: bytes that are written out, alone and among others.
func TestEncodeAndDecodeWrittenOut(t *testing.T) {
	for s, i := range written() {
		if Encode(i) != s {
			t.Errorf("Encode(%v) = %x, want %x", i, Encode(i), s)
		}
		checkDecode(t, s, 0, i, len(s), api.OK)
		checkDecode(t, "\x00\xff"+s+"\xff\x00", 2, i, 2+len(s), api.OK)
	}
}

// P4.2: instructions that are not right have no bytes.
func TestEncode(t *testing.T) {
	for _, i := range all {
		if s := Encode(i); s != wantBytes(i) {
			t.Errorf("Encode(%v) = %x, want %x", i, s, wantBytes(i))
		}
	}
}

// P4.2: a place below 0, at the end, and beyond it.
func TestDecodeOfPlaces(t *testing.T) {
	for _, s := range []string{"", "\x19", "\x00", "\x01\x01", "\x01", "\x19\x19\x19"} {
		for _, at := range []int{-1, -2, bottom, len(s) + 1, len(s) + 2, 1 << 32, top} {
			checkRefused(t, s, at, api.ErrArg)
		}
		checkRefused(t, s, len(s), api.ErrShort)
	}
	checkDecode(t, "\x19\x02\x19", 2, api.Instr{Op: End}, 3, api.OK)
	checkDecode(t, "\x19\x02\x19", 1, api.Instr{Op: Drop}, 2, api.OK)
}

// P4.2: bytes that are no instruction's, whatever stands behind them.
func TestDecodeOfNoOperation(t *testing.T) {
	for b := range 256 {
		if b >= 1 && b <= 25 {
			continue
		}
		for _, behind := range []string{"", "\x00", "\x02\x02", "\x80", "\x80\x00", strings.Repeat("\xff", 12)} {
			checkRefused(t, string([]byte{byte(b)})+behind, 0, api.ErrOp)
		}
	}
}

// P4.2: bytes that end too early, and numbers that are none; ahead of them no number is asked whether it is right.
func TestDecodeOfNumbersErrors(t *testing.T) {
	for _, k := range kinds {
		s := string([]byte{byte(k.op)})
		for range k.has {
			checkRefused(t, s, 0, api.ErrShort)
			checkRefused(t, s+"\x80", 0, api.ErrShort)
			checkRefused(t, s+strings.Repeat("\xff", 9), 0, api.ErrShort)
			checkRefused(t, s+"\x80\x00", 0, api.ErrForm)
			checkRefused(t, s+strings.Repeat("\xff", 10), 0, api.ErrForm)
			checkRefused(t, s+"\xff\xff\xff\xff\xff\xff\xff\xff\xff\x02", 0, api.ErrForm)
			s += "\x02"
		}
	}
	for _, op := range []string{"\x11", "\x12"} {
		checkRefused(t, op+"\x10", 0, api.ErrShort)
		checkRefused(t, op+"\x01\x80", 0, api.ErrShort)
		checkRefused(t, op+"\x10\x80\x00", 0, api.ErrForm)
		checkRefused(t, op+"\x80\x00", 0, api.ErrForm)
		checkRefused(t, op+"\x80\x00\x80", 0, api.ErrForm)
	}
}

// P4.2: numbers that make the instruction not right.
func TestDecodeOfWrongNumbers(t *testing.T) {
	for _, i := range all {
		k, is := kindOf(i.Op)
		if !is {
			continue
		}
		s := string([]byte{byte(i.Op)})
		var read api.Instr
		read.Op = i.Op
		if len(k.has) > 0 {
			read.A, s = i.A, s+code.Put(i.A)
		}
		if len(k.has) > 1 {
			read.B, s = i.B, s+code.Put(i.B)
		}
		if wantRight(read) {
			checkDecode(t, s+"\x02", 0, read, len(s), api.OK)
		} else {
			checkRefused(t, s+"\x02", 0, api.ErrOp)
		}
	}
}

// P4.2: all texts of up to three bytes that begin with an operation or one beside, and others of all kinds, against the promise.
func TestDecode(t *testing.T) {
	check := func(s string, at int) {
		i, behind, e := wantDecode(s, at)
		checkDecode(t, s, at, i, behind, e)
	}
	for op := range 28 {
		check(string([]byte{byte(op)}), 0)
		for n := range 1 << 16 {
			check(string([]byte{byte(op), byte(n)}), 0)
			check(string([]byte{byte(op), byte(n), byte(n >> 8)}), 0)
		}
	}
	r := rand.New(rand.NewSource(5))
	for range 50000 {
		b := make([]byte, r.Intn(14))
		r.Read(b)
		for at := range b {
			if r.Intn(3) == 0 {
				b[at] %= 28
			}
		}
		check(string(b), r.Intn(17)-1)
	}
}

// row is a row of so many right instructions of many kinds.
func row(many int) []api.Instr {
	var l []api.Instr
	for at := range many {
		l = append(l, right[at*37%len(right)])
	}
	return l
}

func bytesOf(l []api.Instr) string {
	s := ""
	for _, i := range l {
		s += wantBytes(i)
	}
	return s
}

// P4.3: rows that are written out.
func TestRowsWrittenOut(t *testing.T) {
	for s, l := range map[string][]api.Instr{
		"":                             nil,
		"\x19":                         {{Op: End}},
		"\x01\x0a\x19":                 {{Op: Push, A: 5}, {Op: End}},
		"\x17\x02\x11\x02\x04\x18\x02": {{Op: Lock, A: 1}, {Op: Get, A: 1, B: 2}, {Op: Unlock, A: 1}},
		"\x02\x02\x02":                 {{Op: Drop}, {Op: Drop}, {Op: Drop}},
	} {
		if Code(l) != s {
			t.Errorf("Code(%v) = %x, want %x", l, Code(l), s)
		}
		checkRead(t, s, l, api.OK)
	}
}

// P4.3: rows of none to 201 instructions; those of more than 200 have no bytes.
func TestCode(t *testing.T) {
	for many := range 202 {
		l := row(many)
		want := bytesOf(l)
		if many > 200 {
			want = ""
		}
		if s := Code(l); s != want {
			t.Errorf("Code of %d: %x, want %x", many, s, want)
		}
	}
	if Code(nil) != "" || Code([]api.Instr{}) != "" || Code(row(1000)) != "" {
		t.Error("rows of none, or of 1000, have bytes")
	}
}

// P4.3: a row with one that is not right, at any place, has no bytes.
func TestCodeWithOneThatIsNotRight(t *testing.T) {
	for _, wrong := range []api.Instr{{}, {Op: 26}, {Op: -1}, {Op: End, A: 1}, {Op: Push, B: 1}, {Op: Loop}, {Op: Put, B: 8}} {
		for _, many := range []int{1, 2, 5, 200, 201} {
			for at := range many {
				l := row(many)
				l[at] = wrong
				if s := Code(l); s != "" {
					t.Errorf("Code of %d with %v at %d: %x", many, wrong, at, s)
				}
			}
		}
	}
}

// P4.3: none to 200 instructions are read; of more, the 201st is not.
func TestRead(t *testing.T) {
	for many := range 201 {
		l := row(many)
		checkRead(t, bytesOf(l), l, api.OK)
	}
	full := bytesOf(row(200))
	for _, behind := range []string{"\x19", "\x00", "\x01", "\x01\x80\x00", "\x15\x00", "\x1a", "\xff", full} {
		checkRead(t, full+behind, nil, api.ErrBig)
	}
	ends := strings.Repeat("\x19", 200)
	checkRead(t, ends, slices.Repeat([]api.Instr{{Op: End}}, 200), api.OK)
	checkRead(t, ends+"\x19", nil, api.ErrBig)
	checkRead(t, strings.Repeat("\x19", 100000), nil, api.ErrBig)
}

// P4.3: the first error of Decode, up to the 200th instruction; nothing beside it.
func TestReadErrors(t *testing.T) {
	for _, c := range []struct {
		s string
		e api.Errno
	}{
		{"\x00", api.ErrOp},
		{"\x1a", api.ErrOp},
		{"\xff", api.ErrOp},
		{"\x01", api.ErrShort},
		{"\x11\x02", api.ErrShort},
		{"\x01\x80", api.ErrShort},
		{"\x01\x80\x00", api.ErrForm},
		{"\x15\x00", api.ErrOp},
		{"\x0b\x10", api.ErrOp},
		{"\x00\x01\x80\x00", api.ErrOp},
		{"\x01\x80\x00\x00", api.ErrForm},
	} {
		for _, many := range []int{0, 1, 7, 199} {
			checkRead(t, bytesOf(row(many))+c.s, nil, c.e)
		}
		checkRead(t, bytesOf(row(200))+c.s, nil, api.ErrBig)
	}
	// An error among the first 200 is met ahead of those that are too many.
	checkRead(t, strings.Repeat("\x19", 199)+"\x00"+strings.Repeat("\x19", 9), nil, api.ErrOp)
	checkRead(t, strings.Repeat("\x19", 199)+"\x01\x80\x00"+strings.Repeat("\x19", 9), nil, api.ErrForm)
}

// P4.3: rows are the same one by one, right or not, and of any length.
func TestSame(t *testing.T) {
	base := []api.Instr{{Op: Push, A: 5}, {Op: Get, A: 1, B: 2}, {Op: 99, A: bottom, B: top}, {Op: End}}
	if !Same(base, slices.Clone(base)) || !Same(base, base) {
		t.Error("alike rows are not the same")
	}
	for at := range base {
		for _, turn := range []func(i *api.Instr){
			func(i *api.Instr) { i.Op++ },
			func(i *api.Instr) { i.A ^= 1 },
			func(i *api.Instr) { i.B ^= 1 << 62 },
		} {
			other := slices.Clone(base)
			turn(&other[at])
			if Same(base, other) || Same(other, base) {
				t.Errorf("%v and %v are the same", base, other)
			}
		}
		if Same(base, base[:at]) || Same(base[:at], base) {
			t.Errorf("a row and its first %d are the same", at)
		}
	}
	if Same(base, []api.Instr{base[1], base[0], base[2], base[3]}) {
		t.Error("the order makes no difference")
	}
	if !Same(row(500), row(500)) || Same(row(500), row(501)) {
		t.Error("of long rows")
	}
}

// P4.3, R1: a nil row is an empty one.
func TestSameOfNone(t *testing.T) {
	none := []api.Instr{}
	if !Same(nil, nil) || !Same(nil, none) || !Same(none, nil) || !Same(none, none) {
		t.Error("rows of none are not the same")
	}
	one := []api.Instr{{}}
	if Same(nil, one) || Same(one, nil) || Same(none, one) {
		t.Error("a row of none and one of a zero instruction are the same")
	}
}

// P4.3, R4: rows that are handed in stay as they are, and the room behind them.
func TestRowsAreNotChanged(t *testing.T) {
	whole := row(20)
	l := slices.Clone(whole)
	Code(l[:10])
	Same(l[:10], l[5:15])
	if !slices.Equal(l, whole) {
		t.Error("a row was changed")
	}
}

// P4.3, R4: two answers of the same bytes share no memory.
func TestReadAnswersNewMemory(t *testing.T) {
	s := bytesOf(row(5))
	a, _ := Read(s)
	b, _ := Read(s)
	a[0] = api.Instr{}
	a = append(a, api.Instr{Op: End})
	if c, _ := Read(s); !slices.Equal(b, row(5)) || !slices.Equal(c, row(5)) || len(a) != 6 {
		t.Errorf("another answer was changed: %v, %v", b, c)
	}
}

// P4.4: what is encoded is decoded as it was, wherever it stands.
func TestLawOfEncodeAndDecode(t *testing.T) {
	for _, i := range right {
		s := Encode(i)
		checkDecode(t, s, 0, i, len(s), api.OK)
		checkDecode(t, "\x80"+s+"\x80", 1, i, 1+len(s), api.OK)
	}
	r := rand.New(rand.NewSource(6))
	for range 5000 {
		i := api.Instr{Op: Push, A: int(r.Uint64()) >> r.Intn(64)}
		checkDecode(t, Encode(i), 0, i, 1+code.Size(i.A), api.OK)
	}
}

// P4.4: so are rows.
func TestLawOfCodeAndRead(t *testing.T) {
	for many := range 201 {
		l := row(many)
		m, e := Read(Code(l))
		if e != api.OK || !Same(l, m) {
			t.Errorf("of %d: %v, %d", many, m, e)
		}
	}
}

// P4.4: what is decoded has just the bytes that were read.
func TestLawOfDecodeAndEncode(t *testing.T) {
	for op := range 256 {
		for n := range 1 << 12 {
			s := string([]byte{byte(op), byte(n), byte(n >> 8)})
			if i, behind, e := Decode(s, 0); e == api.OK && Encode(i) != s[:behind] {
				t.Errorf("%x is %v, whose bytes are %x", s, i, Encode(i))
			}
		}
	}
}
