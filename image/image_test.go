package image

import (
	"encoding/binary"
	"encoding/hex"
	"math/rand"
	"slices"
	"strings"
	"testing"

	"camshaft/api"
	"camshaft/code"
	"camshaft/op"
)

const (
	top    = 1<<63 - 1
	bottom = -1 << 63
)

// small is an image of which all that can be left out is left out.
func small() Image {
	return Image{Latch: 1, Commit: 1, Tasks: []Task{{Prio: 1, Period: 9, Deadline: 9, Code: ends(1)}}}
}

// plain is an image that has some of all.
func plain() Image {
	return Image{
		Switch: 1, Latch: 2, Commit: 3, Inputs: 4,
		Safe:   []int{5, -6},
		Blocks: [][]int{{7}, {8, -9}},
		Tasks: []Task{
			{Prio: 10, Period: 100, Deadline: 64, Blocks: []int{0, 1}, Outs: []int{1}, Code: []api.Instr{{Op: op.Push, A: -1}, {Op: op.Out, A: 1}, {Op: op.End}}},
			{Prio: 1, Period: 9, Deadline: 9, Jitter: 1, Outs: []int{0}, Code: ends(1)},
		},
	}
}

// plainHex is plain's bytes, written out.
const plainHex = "504c4331" + // PLC1
	"02040608" + // Switch, Latch, Commit, Inputs
	"040a0b" + // Safe
	"04" + "020e" + "041011" + // Blocks
	"04" + // Tasks
	"14" + "c801" + "8001" + "00" + "040002" + "0202" + "0a" + "0101" + "1002" + "19" +
	"02" + "12" + "12" + "02" + "00" + "0200" + "02" + "19" +
	"e469" // their sum

// full is an image that has as much of all as can be.
func full() Image {
	im := Image{Switch: 100, Latch: 100, Commit: 100, Inputs: 16, Safe: many(16, bottom)}
	for range 8 {
		im.Blocks = append(im.Blocks, many(8, top))
	}
	for i := range 8 {
		row := make([]api.Instr, 200)
		for k := range row {
			row[k] = api.Instr{Op: op.Push, A: bottom + k}
		}
		im.Tasks = append(im.Tasks, Task{
			Prio: 100, Period: 1 << 20, Deadline: 1 << 20, Jitter: 1 << 20,
			Blocks: []int{0, 1, 2, 3, 4, 5, 6, 7}, Outs: []int{2 * i, 2*i + 1}, Code: row,
		})
	}
	return im
}

func ends(n int) []api.Instr { return slices.Repeat([]api.Instr{{Op: op.End}}, n) }

func many(n, x int) []int { return slices.Repeat([]int{x}, n) }

func upTo(n int) []int {
	l := make([]int, n)
	for i := range l {
		l[i] = i
	}
	return l
}

func deepCopy(im Image) Image {
	im.Safe = slices.Clone(im.Safe)
	im.Blocks = slices.Clone(im.Blocks)
	for i, words := range im.Blocks {
		im.Blocks[i] = slices.Clone(words)
	}
	im.Tasks = slices.Clone(im.Tasks)
	for i := range im.Tasks {
		t := &im.Tasks[i]
		t.Blocks, t.Outs, t.Code = slices.Clone(t.Blocks), slices.Clone(t.Outs), slices.Clone(t.Code)
	}
	return im
}

// wantRight is the chapter's words of a right image again.
func wantRight(im Image) bool {
	spans := [][3]int{
		{im.Switch, 0, 100}, {im.Latch, 1, 100}, {im.Commit, 1, 100}, {im.Inputs, 0, 16},
		{len(im.Safe), 0, 16}, {len(im.Blocks), 0, 8}, {len(im.Tasks), 1, 8},
	}
	for _, words := range im.Blocks {
		spans = append(spans, [3]int{len(words), 1, 8})
	}
	var outs []int
	for _, t := range im.Tasks {
		spans = append(spans,
			[3]int{t.Prio, 1, 100}, [3]int{t.Period, 1, 1048576}, [3]int{t.Deadline, 1, t.Period}, [3]int{t.Jitter, 0, 1048576}, [3]int{len(t.Code), 1, 200})
		for _, l := range [][2][]int{{t.Blocks, upTo(len(im.Blocks))}, {t.Outs, upTo(len(im.Safe))}} {
			rises := slices.Compact(slices.Sorted(slices.Values(l[0])))
			if !slices.Equal(rises, l[0]) {
				return false
			}
			for _, p := range l[0] {
				if !slices.Contains(l[1], p) {
					return false
				}
			}
		}
		for _, i := range t.Code {
			if !op.Right(i) {
				return false
			}
		}
		outs = append(outs, t.Outs...)
	}
	for _, s := range spans {
		if s[0] < s[1] || s[0] > s[2] {
			return false
		}
	}
	slices.Sort(outs)
	return len(slices.Compact(slices.Clone(outs))) == len(outs)
}

// part is a piece of an image's bytes, and what kind of thing it is.
type part struct {
	kind  string // "number", "list" (how many numbers it has), "count", "size", "code"
	bytes string
}

func put(n int) string { return string(binary.AppendVarint(nil, int64(n))) }

// parts is the chapter's words of an image's bytes again, without PLC1 and the sum; of any image, right or not.
func parts(im Image) []part {
	var l []part
	add := func(kind string, n int) { l = append(l, part{kind, put(n)}) }
	numbers := func(ns ...int) {
		for _, n := range ns {
			add("number", n)
		}
	}
	list := func(ns []int) {
		add("list", len(ns))
		numbers(ns...)
	}
	numbers(im.Switch, im.Latch, im.Commit, im.Inputs)
	list(im.Safe)
	add("count", len(im.Blocks))
	for _, words := range im.Blocks {
		list(words)
	}
	add("count", len(im.Tasks))
	for _, t := range im.Tasks {
		numbers(t.Prio, t.Period, t.Deadline, t.Jitter)
		list(t.Blocks)
		list(t.Outs)
		row := rowBytes(t.Code)
		add("size", len(row))
		l = append(l, part{"code", row})
	}
	return l
}

// rowBytes is op.Code of any row, right or not.
func rowBytes(l []api.Instr) string {
	s := ""
	for _, i := range l {
		s += string([]byte{byte(i.Op)})
		for k := range max(op.Args(i.Op), 0) {
			s += put([]int{i.A, i.B}[k])
		}
	}
	return s
}

func join(l []part) string {
	s := ""
	for _, p := range l {
		s += p.bytes
	}
	return s
}

// inner is what is sealed of an image, right or not.
func inner(im Image) string { return "PLC1" + join(parts(im)) }

// sum is crc's sum again, bit by bit.
func sum(s string) int {
	n := 0
	for _, b := range []byte(s) {
		n ^= int(b) << 8
		for range 8 {
			n *= 2
			if n >= 65536 {
				n = (n - 65536) ^ 4129
			}
		}
	}
	return n
}

func seal(s string) string {
	n := sum(s)
	return s + string([]byte{byte(n / 256), byte(n % 256)})
}

// taker reads what is sealed; it ends by a panic with the first error.
type taker struct {
	s  string
	at int
}

func (k *taker) number() int {
	n, at, e := code.Get(k.s, k.at)
	stopAt(e)
	k.at = at
	return n
}

func (k *taker) list() []int {
	l, at, e := code.GetList(k.s, k.at, 16)
	stopAt(e)
	k.at = at
	return l
}

func (k *taker) count(most int) int {
	n := k.number()
	if n > most {
		stopAt(api.ErrBig)
	}
	if n < 0 {
		stopAt(api.ErrForm)
	}
	return n
}

func (k *taker) row() []api.Instr {
	size := k.count(4000)
	if k.at+size > len(k.s) {
		stopAt(api.ErrShort)
	}
	l, e := op.Read(k.s[k.at : k.at+size])
	stopAt(e)
	k.at += size
	return l
}

func stopAt(e api.Errno) {
	if e != api.OK {
		panic(e)
	}
}

// wantDecode is P11.2 again.
func wantDecode(s string) (im Image, e api.Errno) {
	defer func() {
		if x := recover(); x != nil {
			im, e = Image{}, x.(api.Errno)
		}
	}()
	if len(s) < 2 {
		stopAt(api.ErrShort)
	}
	k := &taker{s: s[:len(s)-2]}
	if seal(k.s) != s {
		stopAt(api.ErrCrc)
	}
	if len(k.s) < 4 || k.s[:4] != "PLC1" {
		stopAt(api.ErrForm)
	}
	k.at = 4
	im.Switch = k.number()
	im.Latch = k.number()
	im.Commit = k.number()
	im.Inputs = k.number()
	im.Safe = k.list()
	for n := k.count(8); n > 0; n-- {
		im.Blocks = append(im.Blocks, k.list())
	}
	for n := k.count(8); n > 0; n-- {
		var t Task
		t.Prio = k.number()
		t.Period = k.number()
		t.Deadline = k.number()
		t.Jitter = k.number()
		t.Blocks = k.list()
		t.Outs = k.list()
		t.Code = k.row()
		im.Tasks = append(im.Tasks, t)
	}
	if k.at != len(k.s) {
		stopAt(api.ErrForm)
	}
	if !wantRight(im) {
		stopAt(api.ErrTable)
	}
	return im, api.OK
}

// wantSame holds two images against each other by all that they are made of, in order.
func wantSame(a, b Image) bool {
	return slices.Equal(flat(a), flat(b))
}

// flat is an image's numbers, and of each list how many it has ahead of them.
func flat(im Image) []int {
	l := []int{im.Switch, im.Latch, im.Commit, im.Inputs, len(im.Safe)}
	l = append(append(l, im.Safe...), len(im.Blocks))
	for _, words := range im.Blocks {
		l = append(append(l, len(words)), words...)
	}
	l = append(l, len(im.Tasks))
	for _, t := range im.Tasks {
		l = append(l, t.Prio, t.Period, t.Deadline, t.Jitter, len(t.Blocks))
		l = append(append(append(l, t.Blocks...), len(t.Outs)), t.Outs...)
		l = append(l, len(t.Code))
		for _, i := range t.Code {
			l = append(l, i.Op, i.A, i.B)
		}
	}
	return l
}

// zero tells whether nothing stands in an image.
func zero(im Image) bool {
	return im.Switch == 0 && im.Latch == 0 && im.Commit == 0 && im.Inputs == 0 && len(im.Safe) == 0 && len(im.Blocks) == 0 && len(im.Tasks) == 0
}

// asksDecode asks of some bytes what P11.2 and R3 ask.
func asksDecode(t *testing.T, name, s string, want api.Errno) {
	t.Helper()
	im, e := Decode(s)
	wantIm, wantE := wantDecode(s)
	if wantE != want {
		t.Fatalf("%q: the test's own words answer %d, its table %d", name, wantE, want)
	}
	if e != want {
		t.Errorf("%q: Decode(%x): error %d, wanted %d", name, s, e, want)
	}
	if e != api.OK && !zero(im) {
		t.Errorf("%q: Decode(%x): an image beside error %d", name, s, e)
	}
	if e == api.OK && !wantSame(im, wantIm) {
		t.Errorf("%q: Decode(%x): another image: %v", name, s, im)
	}
}

// change is an image that is another one than plain at one place, or more.
type change struct {
	name  string
	make  func(im *Image)
	right bool
	e     api.Errno // of the bytes, laid as they are
}

// noBytes is of an image whose fault its bytes can't tell.
const noBytes = api.Errno(-1)

// edges sets a number to both its edges, and beside them.
func edges(name string, least, most int, set func(im *Image, n int)) []change {
	var l []change
	for _, n := range []int{least, least + 1, most - 1, most} {
		l = append(l, change{name + " within", func(im *Image) { set(im, n) }, true, api.OK})
	}
	for _, n := range []int{least - 1, most + 1, least - 100, most + 256, -1, bottom, bottom + 1, top - 1, top, 1<<32 + least, 1<<32 + most} {
		l = append(l, change{name + " beyond", func(im *Image) { set(im, n) }, false, api.ErrTable})
	}
	return l
}

func numberChanges() []change {
	return slices.Concat(
		edges("Switch", 0, 100, func(im *Image, n int) { im.Switch = n }),
		edges("Latch", 1, 100, func(im *Image, n int) { im.Latch = n }),
		edges("Commit", 1, 100, func(im *Image, n int) { im.Commit = n }),
		edges("Inputs", 0, 16, func(im *Image, n int) { im.Inputs = n }),
		edges("Prio", 1, 100, func(im *Image, n int) { im.Tasks[0].Prio = n }),
		edges("Prio of the second one", 1, 100, func(im *Image, n int) { im.Tasks[1].Prio = n }),
		edges("Period", 64, 1<<20, func(im *Image, n int) { im.Tasks[0].Period = n }),
		edges("Period, and a deadline of 1", 1, 1<<20, func(im *Image, n int) { im.Tasks[0].Period, im.Tasks[0].Deadline = n, 1 }),
		edges("Period of the second one", 9, 1<<20, func(im *Image, n int) { im.Tasks[1].Period = n }),
		edges("Deadline", 1, 100, func(im *Image, n int) { im.Tasks[0].Deadline = n }),
		edges("Deadline of the second one", 1, 9, func(im *Image, n int) { im.Tasks[1].Deadline = n }),
		edges("Jitter", 0, 1<<20, func(im *Image, n int) { im.Tasks[0].Jitter = n }),
		edges("Jitter of the second one", 0, 1<<20, func(im *Image, n int) { im.Tasks[1].Jitter = n }),
	)
}

func countChanges() []change {
	return []change{
		{"two Safe values", func(im *Image) { im.Safe = []int{bottom, top} }, true, api.OK},
		{"16 Safe values", func(im *Image) { im.Safe = many(16, -1) }, true, api.OK},
		{"17 Safe values", func(im *Image) { im.Safe = many(17, 0) }, false, api.ErrBig},
		{"no Safe values, and no Outs", func(im *Image) { im.Safe, im.Tasks[0].Outs, im.Tasks[1].Outs = nil, nil, nil }, true, api.OK},
		{"no Blocks, and none of tasks", func(im *Image) { im.Blocks, im.Tasks[0].Blocks = nil, nil }, true, api.OK},
		{"no Blocks, and a task's", func(im *Image) { im.Blocks = nil }, false, api.ErrTable},
		{"8 Blocks", func(im *Image) { im.Blocks = slices.Repeat([][]int{{1, 2}}, 8) }, true, api.OK},
		{"9 Blocks", func(im *Image) { im.Blocks = slices.Repeat([][]int{{1, 2}}, 9) }, false, api.ErrBig},
		{"a block of no words", func(im *Image) { im.Blocks[1] = nil }, false, api.ErrTable},
		{"a first block of no words", func(im *Image) { im.Blocks[0] = []int{} }, false, api.ErrTable},
		{"a block of 1 word", func(im *Image) { im.Blocks[1] = []int{0} }, true, api.OK},
		{"a block of 8 words", func(im *Image) { im.Blocks[1] = many(8, top) }, true, api.OK},
		{"a block of 9 words", func(im *Image) { im.Blocks[1] = many(9, 0) }, false, api.ErrTable},
		{"a first block of 9 words", func(im *Image) { im.Blocks[0] = many(9, 0) }, false, api.ErrTable},
		{"a block of 16 words", func(im *Image) { im.Blocks[1] = many(16, 0) }, false, api.ErrTable},
		{"a block of 17 words", func(im *Image) { im.Blocks[1] = many(17, 0) }, false, api.ErrBig},
		{"no Tasks", func(im *Image) { im.Tasks = nil }, false, api.ErrTable},
		{"1 Task", func(im *Image) { im.Tasks = im.Tasks[:1] }, true, api.OK},
		{"8 Tasks", func(im *Image) { im.Tasks = slices.Repeat(small().Tasks, 8) }, true, api.OK},
		{"9 Tasks", func(im *Image) { im.Tasks = slices.Repeat(small().Tasks, 9) }, false, api.ErrBig},
		{"no instructions", func(im *Image) { im.Tasks[0].Code = nil }, false, api.ErrTable},
		{"no instructions of the second one", func(im *Image) { im.Tasks[1].Code = []api.Instr{} }, false, api.ErrTable},
		{"1 instruction", func(im *Image) { im.Tasks[0].Code = ends(1) }, true, api.OK},
		{"200 instructions", func(im *Image) { im.Tasks[0].Code = ends(200) }, true, api.OK},
		{"201 instructions", func(im *Image) { im.Tasks[0].Code = ends(201) }, false, api.ErrBig},
		{"201 instructions of the second one", func(im *Image) { im.Tasks[1].Code = ends(201) }, false, api.ErrBig},
		{"200 instructions of 11 bytes", func(im *Image) { im.Tasks[0].Code = slices.Repeat([]api.Instr{{Op: op.Push, A: top}}, 200) }, true, api.OK},
		{"instructions that could never run", func(im *Image) { im.Tasks[0].Code = []api.Instr{{Op: op.Next}, {Op: op.Unlock, A: 7}} }, true, api.OK},
	}
}

func listChanges() []change {
	three := func(im *Image) {
		im.Safe, im.Blocks = many(3, 0), [][]int{{1}, {2}, {3}}
		im.Tasks[0].Blocks, im.Tasks[0].Outs, im.Tasks[1].Outs = nil, nil, nil
	}
	var l []change
	for _, c := range []struct {
		name  string
		l     []int
		right bool
	}{
		{"none", []int{}, true}, {"the first", []int{0}, true}, {"the last", []int{2}, true}, {"all", []int{0, 1, 2}, true}, {"two with one between", []int{0, 2}, true},
		{"standing still", []int{1, 1}, false}, {"standing still at 0", []int{0, 0}, false}, {"standing still behind", []int{0, 1, 1}, false}, {"falling", []int{1, 0}, false}, {"falling behind", []int{0, 2, 1}, false},
		{"twice, with another between", []int{0, 1, 0}, false}, {"too great", []int{3}, false}, {"too great behind", []int{0, 1, 2, 3}, false}, {"far too great", []int{0, top}, false},
		{"below 0", []int{-1}, false}, {"below 0 ahead", []int{-1, 0}, false}, {"far below 0", []int{bottom, 0}, false}, {"below 0 in low bits alone", []int{1 << 32}, false}, {"sixteen", upTo(16), false},
	} {
		e := api.OK
		if !c.right {
			e = api.ErrTable
		}
		for task := range 2 {
			l = append(l,
				change{"Blocks: " + c.name, func(im *Image) { three(im); im.Tasks[task].Blocks = c.l }, c.right, e},
				change{"Outs: " + c.name, func(im *Image) { three(im); im.Tasks[task].Outs = c.l }, c.right, e})
		}
	}
	return append(l,
		change{"Blocks of 17", func(im *Image) { im.Tasks[0].Blocks = upTo(17) }, false, api.ErrBig},
		change{"Outs of 17", func(im *Image) { im.Tasks[1].Outs = upTo(17) }, false, api.ErrBig},
		change{"Blocks that are places of Safe alone", func(im *Image) { three(im); im.Blocks = im.Blocks[:2]; im.Tasks[1].Blocks = []int{2} }, false, api.ErrTable},
		change{"Outs that are places of Blocks alone", func(im *Image) { three(im); im.Safe = im.Safe[:2]; im.Tasks[1].Outs = []int{2} }, false, api.ErrTable},
		change{"Outs that are places of Inputs alone", func(im *Image) { three(im); im.Inputs = 16; im.Tasks[1].Outs = []int{15} }, false, api.ErrTable},
		change{"Blocks of both", func(im *Image) { three(im); im.Tasks[0].Blocks, im.Tasks[1].Blocks = upTo(3), upTo(3) }, true, api.OK},
		change{"Outs of both, apart", func(im *Image) { three(im); im.Tasks[0].Outs, im.Tasks[1].Outs = []int{1}, []int{0, 2} }, true, api.OK},
		change{"Outs of both, the first", func(im *Image) { three(im); im.Tasks[0].Outs, im.Tasks[1].Outs = []int{0, 1}, []int{0, 2} }, false, api.ErrTable},
		change{"Outs of both, the last", func(im *Image) { three(im); im.Tasks[0].Outs, im.Tasks[1].Outs = []int{2}, []int{0, 2} }, false, api.ErrTable},
		change{"Outs of both, all", func(im *Image) { three(im); im.Tasks[0].Outs, im.Tasks[1].Outs = upTo(3), upTo(3) }, false, api.ErrTable},
		change{"Outs of the first and the last of eight", func(im *Image) {
			im.Safe, im.Tasks = many(16, 0), slices.Repeat(small().Tasks, 8)
			im.Tasks[0].Outs, im.Tasks[7].Outs = []int{15}, []int{14, 15}
		}, false, api.ErrTable},
		change{"all Outs, each of a task", func(im *Image) {
			im.Safe, im.Tasks = many(16, 0), slices.Repeat(small().Tasks, 8)
			for i := range im.Tasks {
				im.Tasks[i].Outs = []int{i, i + 8}
			}
		}, true, api.OK},
	)
}

func codeChanges() []change {
	wrong := func(name string, i api.Instr, e api.Errno) []change {
		return []change{
			{"alone: " + name, func(im *Image) { im.Tasks[0].Code = []api.Instr{i} }, false, e},
			{"ahead: " + name, func(im *Image) { im.Tasks[1].Code = []api.Instr{i, {Op: op.End}} }, false, e},
			{"behind: " + name, func(im *Image) { im.Tasks[1].Code = append(ends(199), i) }, false, e},
		}
	}
	return slices.Concat(
		wrong("no operation", api.Instr{}, api.ErrOp),
		wrong("operation 26", api.Instr{Op: 26}, api.ErrOp),
		wrong("operation -1", api.Instr{Op: -1}, noBytes),
		wrong("input 16", api.Instr{Op: op.In, A: 16}, api.ErrOp),
		wrong("a loop of 0", api.Instr{Op: op.Loop}, api.ErrOp),
		wrong("a loop of 1001", api.Instr{Op: op.Loop, A: 1001}, api.ErrOp),
		wrong("a jump to 200", api.Instr{Op: op.Jump, A: 200}, api.ErrOp),
		wrong("word 8", api.Instr{Op: op.Get, A: 7, B: 8}, api.ErrOp),
		wrong("an A that is none", api.Instr{Op: op.End, A: 1}, noBytes),
		wrong("a B that is none", api.Instr{Op: op.Push, A: 1, B: 1}, noBytes),
	)
}

func changes() []change {
	return slices.Concat([]change{{"none", func(*Image) {}, true, api.OK}}, numberChanges(), countChanges(), listChanges(), codeChanges())
}

// P11.1: Right, at both edges of each number and of each count, and of lists of all kinds.
func TestRightAtEdges(t *testing.T) {
	for _, c := range changes() {
		im := plain()
		c.make(&im)
		if wantRight(im) != c.right {
			t.Fatalf("%s: the test's own words say otherwise than its table: %v", c.name, im)
		}
		if Right(im) != c.right {
			t.Errorf("%s: Right is %t: %v", c.name, Right(im), im)
		}
	}
	for _, im := range []Image{small(), plain(), full()} {
		if !Right(im) {
			t.Errorf("not right: %v", im)
		}
	}
	if Right(Image{}) {
		t.Error("the zero image is right")
	}
}

// P11.1: Right, of a period of 1 and of 2^20 with each deadline beside it.
func TestRightDeadlineAgainstPeriod(t *testing.T) {
	for _, period := range []int{1, 2, 100, 1<<20 - 1, 1 << 20} {
		for _, deadline := range []int{0, 1, period - 1, period, period + 1, 1 << 20} {
			im := small()
			im.Tasks[0].Period, im.Tasks[0].Deadline = period, deadline
			if want := deadline >= 1 && deadline <= period; Right(im) != want {
				t.Errorf("period %d, deadline %d: %t", period, deadline, !want)
			}
		}
	}
}

// P11.1: Encode's bytes, written out.
func TestEncodeWrittenOut(t *testing.T) {
	bytes, err := hex.DecodeString(plainHex)
	if err != nil {
		t.Fatal(err)
	}
	if s := Encode(plain()); s != string(bytes) {
		t.Errorf("plain: %x", s)
	}
	const least = "PLC1\x00\x02\x02\x00\x00\x00\x02\x02\x12\x12\x00\x00\x00\x02\x19"
	if s := Encode(small()); s != seal(least) {
		t.Errorf("small: %x", s)
	}
}

// P11.1: Encode, of each image beside an edge: its bytes, or none.
func TestEncodeAtEdges(t *testing.T) {
	for _, c := range changes() {
		im := plain()
		c.make(&im)
		want := ""
		if c.right {
			want = seal(inner(im))
		}
		if s := Encode(im); s != want {
			t.Errorf("%s: Encode is %x, wanted %x", c.name, s, want)
		}
	}
	if s := Encode(full()); s != seal(inner(full())) {
		t.Errorf("full: %x", s)
	}
	if s := Encode(Image{}); s != "" {
		t.Errorf("the zero image: %x", s)
	}
}

// otherOnes is plain with one thing changed, at each field.
func otherOnes() []func(im *Image) {
	l := []func(im *Image){
		func(im *Image) { im.Safe = nil },
		func(im *Image) { im.Safe = im.Safe[:1] },
		func(im *Image) { im.Safe = []int{5, -6, 0} },
		func(im *Image) { im.Safe = []int{5, 6} },
		func(im *Image) { im.Safe = []int{-6, 5} },
		func(im *Image) { im.Blocks = nil },
		func(im *Image) { im.Blocks = im.Blocks[:1] },
		func(im *Image) { im.Blocks = append(im.Blocks, nil) },
		func(im *Image) { im.Blocks = append(im.Blocks, []int{1}) },
		func(im *Image) { im.Blocks = [][]int{{8, -9}, {7}} },
		func(im *Image) { im.Blocks = [][]int{{7, 8}, {-9}} },
		func(im *Image) { im.Blocks[0] = nil },
		func(im *Image) { im.Blocks[0][0] = 8 },
		func(im *Image) { im.Blocks[1] = []int{8} },
		func(im *Image) { im.Blocks[1] = []int{8, -9, 0} },
		func(im *Image) { im.Blocks[1][1] = -8 },
		func(im *Image) { im.Tasks = nil },
		func(im *Image) { im.Tasks = im.Tasks[:1] },
		func(im *Image) { im.Tasks = append(im.Tasks, Task{}) },
		func(im *Image) { im.Tasks = append(im.Tasks, im.Tasks[1]) },
		func(im *Image) { im.Tasks[0], im.Tasks[1] = im.Tasks[1], im.Tasks[0] },
	}
	numbers := []func(im *Image) *int{
		func(im *Image) *int { return &im.Switch }, func(im *Image) *int { return &im.Latch }, func(im *Image) *int { return &im.Commit }, func(im *Image) *int { return &im.Inputs },
	}
	for k := range 2 {
		numbers = append(numbers,
			func(im *Image) *int { return &im.Tasks[k].Prio }, func(im *Image) *int { return &im.Tasks[k].Period },
			func(im *Image) *int { return &im.Tasks[k].Deadline }, func(im *Image) *int { return &im.Tasks[k].Jitter })
		l = append(l,
			func(im *Image) { im.Tasks[k].Blocks = []int{0} },
			func(im *Image) { im.Tasks[k].Blocks = []int{1, 0} },
			func(im *Image) { im.Tasks[k].Blocks = []int{0, 1, 2} },
			func(im *Image) { im.Tasks[k].Outs = nil },
			func(im *Image) { im.Tasks[k].Outs = []int{2} },
			func(im *Image) { im.Tasks[k].Outs = []int{0, 1} },
			func(im *Image) { im.Tasks[k].Blocks, im.Tasks[k].Outs = im.Tasks[k].Outs, im.Tasks[k].Blocks },
			func(im *Image) { im.Tasks[k].Code = nil },
			func(im *Image) { im.Tasks[k].Code = append(im.Tasks[k].Code, api.Instr{Op: op.End}) },
			func(im *Image) { im.Tasks[k].Code[0].Op++ },
			func(im *Image) { im.Tasks[k].Code[0].A++ },
			func(im *Image) { im.Tasks[k].Code[0].B++ })
	}
	for _, at := range numbers {
		for _, n := range []int{1, -1, 1 << 32, bottom} {
			l = append(l, func(im *Image) { *at(im) += n })
		}
	}
	return l
}

// P11.1: Same, of images that differ in one thing alone, right or not.
func TestSameOfOthers(t *testing.T) {
	for i, change := range otherOnes() {
		a, b := plain(), plain()
		change(&b)
		if wantSame(a, b) {
			t.Fatalf("%d changes nothing", i)
		}
		if Same(a, b) || Same(b, a) {
			t.Errorf("%d: the same: %v, %v", i, a, b)
		}
		if !Same(b, b) || !Same(b, deepCopy(b)) {
			t.Errorf("%d: not the same as itself: %v", i, b)
		}
	}
}

// P11.1: Same, of any two of many images.
func TestSameOfPairs(t *testing.T) {
	all := []Image{{}, small(), full()}
	for _, change := range otherOnes() {
		im := plain()
		change(&im)
		all = append(all, im)
	}
	for _, a := range all {
		for _, b := range all {
			if Same(a, deepCopy(b)) != wantSame(a, b) {
				t.Errorf("Same is %t: %v, %v", !wantSame(a, b), a, b)
			}
		}
	}
}

// P11.1, R1: nil lists are empty ones, of each field.
func TestSameOfNilAndEmpty(t *testing.T) {
	bare := func() Image { return Image{Blocks: [][]int{nil}, Tasks: []Task{{}}} }
	for i, change := range []func(im *Image){
		func(im *Image) { im.Safe = []int{} },
		func(im *Image) { im.Safe = make([]int, 0, 3) },
		func(im *Image) { im.Blocks[0] = []int{} },
		func(im *Image) { im.Tasks[0].Blocks = []int{} },
		func(im *Image) { im.Tasks[0].Outs = []int{} },
		func(im *Image) { im.Tasks[0].Code = []api.Instr{} },
	} {
		im := bare()
		change(&im)
		if !Same(im, bare()) || !Same(bare(), im) {
			t.Errorf("%d: nil and empty are not the same", i)
		}
	}
	if !Same(Image{}, Image{Safe: []int{}, Blocks: [][]int{}, Tasks: []Task{}}) || !Same(Image{Blocks: [][]int{}, Tasks: []Task{}}, Image{}) {
		t.Error("the zero image and the empty one are not the same")
	}
	if Same(Image{}, bare()) || Same(bare(), Image{}) {
		t.Error("no list and a list of nothing are the same")
	}
}

// R1: nil lists are empty ones: what is right, and its bytes, hang not on it.
func TestNilAndEmptyAreRightAlike(t *testing.T) {
	a, b := small(), small()
	b.Safe, b.Blocks, b.Tasks[0].Blocks, b.Tasks[0].Outs = []int{}, [][]int{}, []int{}, []int{}
	if !Right(a) || !Right(b) || Encode(a) != Encode(b) {
		t.Errorf("%x, %x", Encode(a), Encode(b))
	}
}

// P11.2: what is encoded is decoded; of an image that is well formed and not right it is ErrTable, or the error of what can't be read.
func TestDecodeAtEdges(t *testing.T) {
	for _, c := range changes() {
		im := plain()
		c.make(&im)
		if c.e != noBytes {
			asksDecode(t, c.name, seal(inner(im)), c.e)
		}
	}
	asksDecode(t, "full", seal(inner(full())), api.OK)
	asksDecode(t, "small", seal(inner(small())), api.OK)
}

// P11.2: crc.Open's errors: bytes that are too few for a sum, that have another one, of which one is turned or that are cut off.
func TestDecodeOfWhatIsNotSealed(t *testing.T) {
	asksDecode(t, "nothing", "", api.ErrShort)
	asksDecode(t, "one byte", "\x00", api.ErrShort)
	asksDecode(t, "not sealed", inner(plain()), api.ErrCrc)
	for _, im := range []Image{small(), plain()} {
		s := seal(inner(im))
		for at := range len(s) {
			for bit := range 8 {
				b := []byte(s)
				b[at] ^= 1 << bit
				asksDecode(t, "turned", string(b), api.ErrCrc)
			}
			b := []byte(s)
			b[at] = ^b[at]
			asksDecode(t, "a turned byte", string(b), api.ErrCrc)
			if at > 1 {
				if _, e := wantDecode(s[:at]); e != api.ErrCrc {
					t.Fatalf("cut at %d: %d", at, e)
				}
				asksDecode(t, "cut off", s[:at], api.ErrCrc)
			}
		}
		asksDecode(t, "a byte behind", s+"\x01", api.ErrCrc)
		asksDecode(t, "sums that change places", s[:len(s)-2]+s[len(s)-1:]+s[len(s)-2:len(s)-1], api.ErrCrc)
	}
}

// P11.2: ErrForm, if what is sealed does not begin with PLC1, or is too short for it.
func TestDecodeOfAnotherBeginning(t *testing.T) {
	rest := join(parts(plain()))
	for _, head := range []string{"", "P", "PL", "PLC", "PLC0", "PLC2", "plc1", "PLc1", "QLC1", "PMC1", " PLC1", "CLP1", "PLC\xb1", "\x00\x00\x00\x00"} {
		asksDecode(t, head, seal(head), api.ErrForm)
		asksDecode(t, head, seal(head+rest), api.ErrForm)
	}
	asksDecode(t, "PLC1 alone", seal("PLC1"), api.ErrShort)
}

// fault is bytes that stand where a part should, and their error.
type fault struct {
	name, bytes string
	e           api.Errno
	last        bool // nothing may stand behind: it is the end that is wrong
}

// numberFaults are bytes that are no number's.
func numberFaults() []fault {
	ff := strings.Repeat("\xff", 9)
	return []fault{
		{"nothing", "", api.ErrShort, true},
		{"a first byte alone", "\x80", api.ErrShort, true},
		{"nine bytes without a last one", ff, api.ErrShort, true},
		{"nothing in the last byte", "\x80\x00", api.ErrForm, false},
		{"nothing in the last byte of three", "\x85\x81\x00", api.ErrForm, false},
		{"more bits than a number has", ff + "\x02", api.ErrForm, false},
		{"more bytes than a number has", ff + "\x81", api.ErrForm, false},
	}
}

// countFaults are numbers of things that can't be, and one that is the greatest of those that can, with nothing behind.
func countFaults(most int) []fault {
	return []fault{
		{"below 0", put(-1), api.ErrForm, false},
		{"far below 0", put(bottom), api.ErrForm, false},
		{"one too many", put(most + 1), api.ErrBig, false},
		{"one too many, and nothing behind", put(most + 1), api.ErrBig, true},
		{"far too many", put(1 << 40), api.ErrBig, false},
		{"most", put(top), api.ErrBig, true},
		{"as many as can be, and nothing behind", put(most), api.ErrShort, true},
		{"one, and nothing behind", put(1), api.ErrShort, true},
	}
}

// codeFaults are op.Read's errors, with the size ahead.
func codeFaults() []fault {
	sized := func(s string) string { return put(len(s)) + s }
	return []fault{
		{"no operation", sized("\x00"), api.ErrOp, false},
		{"operation 26", sized("\x1a"), api.ErrOp, false},
		{"no operation behind", sized("\x19\x19\x00"), api.ErrOp, false},
		{"input 16", sized("\x0f\x20"), api.ErrOp, false},
		{"a number that its size cuts off", sized("\x01"), api.ErrShort, false},
		{"a long number that its size cuts off", sized("\x19\x01\x80"), api.ErrShort, false},
		{"a second number that its size cuts off", sized("\x11\x00"), api.ErrShort, false},
		{"a number that is none", sized("\x01\x80\x00"), api.ErrForm, false},
		{"201 instructions", sized(strings.Repeat("\x19", 201)), api.ErrBig, false},
		{"201 instructions and what is none", sized(strings.Repeat("\x19", 201) + "\x00"), api.ErrBig, false},
		{"200 instructions and what is none", sized(strings.Repeat("\x19", 200) + "\x00"), api.ErrBig, false},
		{"what is none and 200 instructions", sized("\x00" + strings.Repeat("\x19", 200)), api.ErrOp, false},
		{"4000 bytes, the first one none", sized("\x00" + strings.Repeat("\x19", 3999)), api.ErrOp, false},
		{"4000 bytes", sized(strings.Repeat("\x19", 4000)), api.ErrBig, false},
		{"4001 bytes, the first one none", sized("\x00" + strings.Repeat("\x19", 4000)), api.ErrBig, false},
		{"3999 of 4000 bytes, the first one none", put(4000) + "\x00" + strings.Repeat("\x19", 3998), api.ErrShort, true},
		{"one of two bytes, which is none", put(2) + "\x00", api.ErrShort, true},
		{"one of two bytes", put(2) + "\x19", api.ErrShort, true},
	}
}

// faults are those that a part's kind can have.
func faults(kind string) []fault {
	switch kind {
	case "number":
		return numberFaults()
	case "list":
		return slices.Concat(numberFaults(), countFaults(16))
	case "count":
		return slices.Concat(numberFaults(), countFaults(8))
	case "size":
		return slices.Concat(numberFaults(), countFaults(4000), codeFaults())
	}
	return nil
}

// rows are images whose parts have faults laid into them.
func rows() []Image {
	none := small()
	none.Safe, none.Blocks = []int{0}, [][]int{{1}}
	return []Image{small(), plain(), none}
}

// P11.2: each error at each place of the row where it may come, with and without what stands behind.
func TestDecodeFaultAtEachPlace(t *testing.T) {
	for _, im := range rows() {
		l := parts(im)
		for at, p := range l {
			head, tail := "PLC1"+join(l[:at]), join(l[at+1:])
			for _, f := range faults(p.kind) {
				asksDecode(t, p.kind+": "+f.name, seal(head+f.bytes), f.e)
				if !f.last {
					asksDecode(t, p.kind+": "+f.name+", with all behind", seal(head+f.bytes+tail), f.e)
				}
			}
		}
	}
}

// P11.2: bytes that are cut off, with a sum that is right: ErrShort everywhere.
func TestDecodeCutOff(t *testing.T) {
	for _, im := range []Image{small(), plain(), full()} {
		s := inner(im)
		for at := 4; at < len(s); at += 1 + len(s)/300 {
			asksDecode(t, "cut off", seal(s[:at]), api.ErrShort)
		}
		asksDecode(t, "cut off at the last", seal(s[:len(s)-1]), api.ErrShort)
	}
}

// P11.2: the first one of two errors, of each two places.
func TestDecodeFirstOfTwoFaults(t *testing.T) {
	for _, im := range rows() {
		l := parts(im)
		for at, p := range l {
			for behind := at + 1; behind < len(l); behind++ {
				for _, f := range faults(p.kind) {
					for _, g := range faults(l[behind].kind) {
						if !f.last && f.e != g.e {
							s := "PLC1" + join(l[:at]) + f.bytes + join(l[at+1:behind]) + g.bytes
							asksDecode(t, p.kind+": "+f.name+"; "+l[behind].kind+": "+g.name, seal(s), f.e)
						}
					}
				}
			}
		}
	}
}

// P11.2: what can't be read goes ahead of bytes that are left, and these ahead of what is not right.
func TestDecodeErrorsBehindAll(t *testing.T) {
	wrong := plain()
	wrong.Switch = 101
	l := parts(wrong)
	asksDecode(t, "not right", seal("PLC1"+join(l)), api.ErrTable)
	for _, left := range []string{"\x00", "\x19", "\x80", "PLC1", strings.Repeat("\x02", 5000)} {
		asksDecode(t, "bytes are left", seal(inner(plain())+left), api.ErrForm)
		asksDecode(t, "bytes are left, and it is not right", seal("PLC1"+join(l)+left), api.ErrForm)
	}
	for at, p := range l[1:] {
		for _, f := range faults(p.kind) {
			s := "PLC1" + join(l[:at+1]) + f.bytes
			asksDecode(t, "not right, then "+f.name, seal(s), f.e)
			if !f.last {
				asksDecode(t, "not right, then "+f.name+", then bytes are left", seal(s+join(l[at+2:])+"\x00"), f.e)
			}
		}
	}
	asksDecode(t, "another beginning, and a sum that is wrong", "PLC2"+join(l)+"ab", api.ErrCrc)
	asksDecode(t, "another beginning, and what can't be read", seal("PLC2\x80\x00"), api.ErrForm)
	asksDecode(t, "no tasks, and bytes are left", seal("PLC1\x00\x02\x02\x00\x00\x00\x00\x00"), api.ErrForm)
}

// source makes images and bytes by chance, the same ones at each run.
type source struct{ *rand.Rand }

func newSource(seed int64) source { return source{rand.New(rand.NewSource(seed))} }

// pick is a number of a span, often an edge, and now and then one beyond it.
func (r source) pick(least, most, spoil int) int {
	switch n := r.Intn(8); {
	case spoil > 0 && r.Intn(spoil) == 0:
		return []int{least - 1, most + 1, bottom, top, -1}[r.Intn(5)]
	case n == 0:
		return least
	case n == 1:
		return most
	case n == 2:
		return min(most, least+r.Intn(3))
	}
	return least + r.Intn(most-least+1)
}

func (r source) words(n int) []int {
	l := make([]int, n)
	for i := range l {
		l[i] = int(r.Uint64()) >> r.Intn(64)
	}
	return l
}

// places is some of those below n, rising but where it is spoilt.
func (r source) places(n, spoil int) []int {
	var l []int
	for p := range n {
		if r.Intn(2) == 0 {
			l = append(l, p)
		}
	}
	if spoil > 0 && r.Intn(spoil) == 0 {
		l = append(l, r.Intn(n+2)-1)
	}
	return l
}

func (r source) instr(spoil int) api.Instr {
	for {
		i := api.Instr{Op: 1 + r.Intn(25)}
		if k := op.Args(i.Op); k > 0 {
			i.A = r.words(1)[0]
			if r.Intn(4) > 0 {
				i.A = r.Intn(20)
			}
			if k > 1 {
				i.B = r.Intn(8)
			}
		}
		if op.Right(i) || spoil > 0 && r.Intn(40*spoil) == 0 {
			return i
		}
	}
}

// length is mostly a small one, and now and then one at, or beyond, the greatest.
func (r source) length(least, most, spoil int) int {
	if spoil > 0 && r.Intn(2*spoil) == 0 {
		return []int{least - 1, most + 1}[r.Intn(2)]
	}
	return r.pick(least, most, 0)
}

// image is a right one, or, the smaller spoil is, the more often one that is not.
func (r source) image(spoil int) Image {
	im := Image{
		Switch: r.pick(0, 100, spoil), Latch: r.pick(1, 100, spoil), Commit: r.pick(1, 100, spoil), Inputs: r.pick(0, 16, spoil),
		Safe: r.words(max(0, r.length(0, 16, spoil))),
	}
	for range r.length(0, 8, spoil) {
		im.Blocks = append(im.Blocks, r.words(max(0, r.length(1, 8, spoil))))
	}
	free := upTo(len(im.Safe))
	for range r.length(1, 8, spoil) {
		t := Task{Prio: r.pick(1, 100, spoil), Period: r.pick(1, 1<<20, spoil), Jitter: r.pick(0, 1<<20, spoil), Blocks: r.places(len(im.Blocks), spoil)}
		t.Deadline = r.pick(1, max(1, min(t.Period, 1<<20)), spoil)
		for _, k := range r.places(len(free), spoil) {
			if k >= 0 && k < len(free) {
				t.Outs = append(t.Outs, free[k])
			}
		}
		if spoil == 0 || r.Intn(spoil) > 0 {
			free = slices.DeleteFunc(free, func(p int) bool { return slices.Contains(t.Outs, p) })
		}
		rowLength := max(0, r.length(1, 200, spoil))
		if r.Intn(3) > 0 {
			rowLength = 1 + r.Intn(9)
		}
		for range rowLength {
			t.Code = append(t.Code, r.instr(spoil))
		}
		im.Tasks = append(im.Tasks, t)
	}
	return im
}

// P11.1: Right and Encode, over many images, of which some are right and some are not.
func TestRightAndEncodeOfMany(t *testing.T) {
	r := newSource(11)
	count := map[bool]int{}
	for range 6000 {
		im := r.image(40)
		want := wantRight(im)
		count[want]++
		if Right(im) != want {
			t.Fatalf("Right is %t: %v", !want, im)
		}
		bytes := ""
		if want {
			bytes = seal(inner(im))
		}
		if s := Encode(im); s != bytes {
			t.Fatalf("Encode is %x, wanted %x", s, bytes)
		}
	}
	if count[true] < 500 || count[false] < 500 {
		t.Fatalf("too few of one kind: %v", count)
	}
}

// P11.3: what is encoded is decoded as it was.
func TestEncodedIsDecodedAsItWas(t *testing.T) {
	r := newSource(12)
	images := []Image{small(), plain(), full()}
	for range 4000 {
		images = append(images, r.image(0))
	}
	for _, im := range images {
		s := Encode(im)
		if s == "" {
			t.Fatalf("no bytes: %v", im)
		}
		back, e := Decode(s)
		if e != api.OK || !Same(back, im) || !wantSame(back, im) {
			t.Fatalf("error %d: %v came back as %v", e, im, back)
		}
		if Encode(back) != s {
			t.Fatalf("%x came back as %x", s, Encode(back))
		}
	}
}

// P11.2, P11.3: bytes that are near to an image's, sealed anew: what the chapter's words answer; and what is decoded has the bytes that were read.
func TestDecodeOfBytesNearToImages(t *testing.T) {
	r := newSource(13)
	count := map[api.Errno]int{}
	for range 60000 {
		im := r.image(60)
		if r.Intn(3) == 0 {
			im = plain()
		}
		if r.Intn(9) > 0 {
			for i := range im.Tasks {
				im.Tasks[i].Code = im.Tasks[i].Code[:min(3, len(im.Tasks[i].Code))]
			}
		}
		s := seal(r.near(inner(im)))
		back, e := Decode(s)
		wantBack, want := wantDecode(s)
		count[want]++
		if e != want || !wantSame(back, wantBack) {
			t.Fatalf("Decode(%x): error %d, wanted %d", s, e, want)
		}
		if e == api.OK && Encode(back) != s {
			t.Fatalf("%x came back as %x", s, Encode(back))
		}
	}
	for _, e := range []api.Errno{api.OK, api.ErrShort, api.ErrForm, api.ErrBig, api.ErrOp, api.ErrTable} {
		if count[e] < 200 {
			t.Errorf("error %d came too seldom: %v", e, count)
		}
	}
}

// near is bytes with a few of them changed, behind PLC1 most often.
func (r source) near(s string) string {
	b := []byte(s)
	for range r.Intn(3) {
		from := 4
		if r.Intn(50) == 0 {
			from = 0
		}
		if len(b) <= from {
			return string(b)
		}
		at := from + r.Intn(len(b)-from)
		some := []byte{0, 1, 2, 0x12, 0x19, 0x7f, 0x80, 0x81, 0xff, byte(r.Intn(256))}[r.Intn(10)]
		switch r.Intn(5) {
		case 0, 1:
			b[at] = some
		case 2:
			b = slices.Insert(b, at, some)
		case 3:
			b = slices.Delete(b, at, at+1)
		case 4:
			b[at] += byte(2 * (r.Intn(3) - 1))
		}
	}
	return string(b)
}

// P11.2, P11.3: of the least image, each byte as each other one, sealed anew.
func TestDecodeOfEachByte(t *testing.T) {
	for _, im := range []Image{small(), plain()} {
		s := inner(im)
		for at := range len(s) {
			for b := range 256 {
				other := seal(s[:at] + string([]byte{byte(b)}) + s[at+1:])
				wantBack, want := wantDecode(other)
				back, e := Decode(other)
				if e != want || !wantSame(back, wantBack) {
					t.Errorf("Decode(%x): error %d, wanted %d", other, e, want)
				}
				if e == api.OK && Encode(back) != other {
					t.Errorf("%x came back as %x", other, Encode(back))
				}
			}
		}
	}
}

// R1: any bytes end in an answer, and any images, too.
func TestAnyArgumentEnds(t *testing.T) {
	r := newSource(14)
	for range 20000 {
		b := make([]byte, r.Intn(40))
		r.Read(b)
		for _, s := range []string{string(b), seal(string(b)), seal("PLC1" + string(b))} {
			im, e := Decode(s)
			if _, want := wantDecode(s); e != want || e != api.OK && !zero(im) {
				t.Fatalf("Decode(%x): error %d, wanted %d", s, e, want)
			}
		}
	}
	long := many(1<<20, 1)
	for i, change := range []func(im *Image){
		func(im *Image) { im.Safe = long },
		func(im *Image) { im.Blocks = slices.Repeat([][]int{long}, 1<<6) },
		func(im *Image) { im.Blocks[0] = long },
		func(im *Image) { im.Tasks = make([]Task, 1<<16) },
		func(im *Image) { im.Tasks[0].Blocks = long },
		func(im *Image) { im.Tasks[0].Outs = long },
		func(im *Image) { im.Tasks[0].Code = ends(1 << 20) },
	} {
		im := plain()
		change(&im)
		if Right(im) || Encode(im) != "" || Same(im, plain()) || !Same(im, im) {
			t.Errorf("%d: a list that is far too long", i)
		}
	}
	asksDecode(t, "many bytes", seal("PLC1"+strings.Repeat("\x02", 1<<18)), api.ErrForm)
}

const markNumber = -777

func roomy(l []int) []int {
	return append(append(make([]int, 0, len(l)+3), l...), markNumber, markNumber, markNumber)[:len(l)]
}

func roomyRow(l []api.Instr) []api.Instr {
	behind := api.Instr{Op: markNumber, A: 1, B: 2}
	return append(append(make([]api.Instr, 0, len(l)+2), l...), behind, behind)[:len(l)]
}

// withRoom is an image's copy whose lists all have room behind.
func withRoom(im Image) Image {
	im = deepCopy(im)
	im.Safe = roomy(im.Safe)
	for i := range im.Blocks {
		im.Blocks[i] = roomy(im.Blocks[i])
	}
	im.Blocks = append(append(make([][]int, 0, len(im.Blocks)+2), im.Blocks...), []int{1}, []int{2})[:len(im.Blocks)]
	for i := range im.Tasks {
		t := &im.Tasks[i]
		t.Blocks, t.Outs, t.Code = roomy(t.Blocks), roomy(t.Outs), roomyRow(t.Code)
	}
	im.Tasks = append(append(make([]Task, 0, len(im.Tasks)+1), im.Tasks...), Task{Prio: markNumber, Blocks: []int{3}})[:len(im.Tasks)]
	return im
}

// whole is an image with all the room behind its lists as if it were theirs.
func whole(im Image) Image {
	all := func(l []int) []int { return l[:cap(l)] }
	im.Safe = all(im.Safe)
	im.Blocks = slices.Clone(im.Blocks[:cap(im.Blocks)])
	for i := range im.Blocks {
		im.Blocks[i] = all(im.Blocks[i])
	}
	im.Tasks = slices.Clone(im.Tasks[:cap(im.Tasks)])
	for i := range im.Tasks {
		t := &im.Tasks[i]
		t.Blocks, t.Outs, t.Code = all(t.Blocks), all(t.Outs), t.Code[:cap(t.Code)]
	}
	return im
}

// R4: images that are handed in are not changed, nor the room behind their lists, right or not.
func TestImagesHandedInAreNotChanged(t *testing.T) {
	var images []Image
	for _, c := range changes() {
		im := plain()
		c.make(&im)
		images = append(images, im)
	}
	for _, im := range append(images, Image{}, full()) {
		im = withRoom(im)
		before := flat(deepCopy(whole(im)))
		Right(im)
		Encode(im)
		Same(im, im)
		Same(im, plain())
		Same(plain(), im)
		if !slices.Equal(flat(whole(im)), before) {
			t.Fatalf("changed: %v", im)
		}
	}
}

// R4, R5: images that are handed in are not kept: what they become later changes no answer, and no bytes.
func TestImagesHandedInAreNotKept(t *testing.T) {
	im := withRoom(plain())
	s := Encode(im)
	was := strings.Clone(s)
	scribble(im)
	if s != was || Encode(plain()) != was || !Right(plain()) || !Same(plain(), plain()) {
		t.Errorf("%x", s)
	}
	if back, e := Decode(s); e != api.OK || !Same(back, plain()) {
		t.Error(e)
	}
}

// scribble writes over all that an image's lists reach.
func scribble(im Image) {
	w := whole(im)
	lists := append(slices.Clone(w.Blocks), w.Safe)
	for _, t := range w.Tasks {
		lists = append(lists, t.Blocks, t.Outs)
		for i := range t.Code {
			t.Code[i] = api.Instr{Op: markNumber}
		}
	}
	for _, l := range lists {
		for i := range l {
			l[i] = markNumber
		}
	}
	clear(im.Blocks[:cap(im.Blocks)])
	clear(im.Tasks[:cap(im.Tasks)])
}

// R4: no two lists of an answer share memory, nor those of two answers, spare room included.
func TestDecodedListsShareNothing(t *testing.T) {
	r := newSource(15)
	images := []Image{small(), plain(), full()}
	for range 200 {
		images = append(images, r.image(0))
	}
	for _, im := range images {
		s := Encode(im)
		a, _ := Decode(s)
		b, _ := Decode(s)
		seen := map[*int]bool{}
		seenInstr := map[*api.Instr]bool{}
		for _, w := range []Image{whole(a), whole(b)} {
			lists := append(slices.Clone(w.Blocks), w.Safe)
			for _, task := range w.Tasks {
				lists = append(lists, task.Blocks, task.Outs)
				for i := range task.Code {
					if seenInstr[&task.Code[i]] {
						t.Fatal("two rows share memory")
					}
					seenInstr[&task.Code[i]] = true
				}
			}
			for _, l := range lists {
				for i := range l {
					if seen[&l[i]] {
						t.Fatal("two lists share memory")
					}
					seen[&l[i]] = true
				}
			}
		}
		scribble(a)
		if c, _ := Decode(s); !wantSame(b, im) || !wantSame(c, im) {
			t.Fatal("what is done with one answer changes another")
		}
	}
}

// R5: the same is answered again, whatever is asked between.
func TestOneAnswer(t *testing.T) {
	bad := seal(inner(plain()) + "\x00")
	good := Encode(plain())
	for range 3 {
		if _, e := Decode(bad); e != api.ErrForm {
			t.Error(e)
		}
		if im, e := Decode(good); e != api.OK || !Same(im, plain()) || Encode(im) != good {
			t.Error(e)
		}
		if Encode(Image{}) != "" || Right(Image{}) {
			t.Error("the zero image is right")
		}
	}
}
