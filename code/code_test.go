package code

import (
	"math/big"
	"math/rand"
	"slices"
	"strings"
	"testing"

	"camshaft/api"
)

const (
	top    = 1<<63 - 1
	bottom = -1 << 63
)

// borders is, for each size but the last, the last numbers that it holds and the first that need a byte more.
func borders() []int {
	var l []int
	for size := 1; size < 10; size++ {
		half := 1 << (7*size - 1)
		l = append(l, half-1, -half, half, -half-1)
	}
	return l
}

// sample is numbers at and beside the edges, and some of all sizes.
func sample() []int {
	l := append(borders(), 0, 1, -1, 2, -2, 5, 100, -100, 300, -300, 1<<32, -1<<32, top-1, top, bottom+1, bottom)
	r := rand.New(rand.NewSource(2))
	for range 500 {
		l = append(l, int(r.Uint64())>>r.Intn(64))
	}
	return l
}

// wantBytes is the chapter's word of a number's bytes again, reckoned with numbers that have no end.
func wantBytes(n int) string {
	left := new(big.Int).Mul(big.NewInt(int64(n)), big.NewInt(2))
	if n < 0 {
		left.Neg(left).Sub(left, big.NewInt(1))
	}
	var b []byte
	for {
		low := new(big.Int)
		left.DivMod(left, big.NewInt(128), low)
		if left.Sign() == 0 {
			return string(append(b, byte(low.Int64())))
		}
		b = append(b, byte(low.Int64())+128)
	}
}

// wantGet is P2.2 again: first how far the bytes go, then what they say, reckoned with numbers that have no end.
func wantGet(s string, at int) (int, int, api.Errno) {
	if at < 0 || at > len(s) {
		return 0, 0, api.ErrArg
	}
	rest := s[at:]
	size := 1
	for size <= len(rest) && rest[size-1] >= 128 {
		size++
	}
	if size > len(rest) && len(rest) < 10 {
		return 0, 0, api.ErrShort
	}
	if size > 10 || size > 1 && rest[size-1] == 0 {
		return 0, 0, api.ErrForm
	}
	n := new(big.Int)
	for i := size - 1; i >= 0; i-- {
		n.Mul(n, big.NewInt(128)).Add(n, big.NewInt(int64(rest[i]%128)))
	}
	if n.BitLen() > 64 {
		return 0, 0, api.ErrForm
	}
	if n.Bit(0) == 1 {
		n.Add(n, big.NewInt(1)).Neg(n)
	}
	return int(n.Div(n, big.NewInt(2)).Int64()), at + size, api.OK
}

func checkGet(t *testing.T, s string, at, n, behind int, e api.Errno) {
	t.Helper()
	if gotN, gotBehind, gotE := Get(s, at); gotN != n || gotBehind != behind || gotE != e {
		t.Errorf("Get(%q, %d) = %d, %d, %d; want %d, %d, %d", s, at, gotN, gotBehind, gotE, n, behind, e)
	}
}

func checkGetList(t *testing.T, s string, at, most int, l []int, behind int, e api.Errno) {
	t.Helper()
	if gotL, gotBehind, gotE := GetList(s, at, most); !slices.Equal(gotL, l) || gotBehind != behind || gotE != e {
		t.Errorf("GetList(%q, %d, %d) = %v, %d, %d; want %v, %d, %d", s, at, most, gotL, gotBehind, gotE, l, behind, e)
	}
}

var written = map[int]string{
	0:       "\x00",
	-1:      "\x01",
	1:       "\x02",
	-2:      "\x03",
	63:      "\x7e",
	-64:     "\x7f",
	64:      "\x80\x01",
	-65:     "\x81\x01",
	150:     "\xac\x02",
	8191:    "\xfe\x7f",
	-8192:   "\xff\x7f",
	8192:    "\x80\x80\x01",
	-8193:   "\x81\x80\x01",
	1 << 62: "\x80\x80\x80\x80\x80\x80\x80\x80\x80\x01",
	top:     "\xfe\xff\xff\xff\xff\xff\xff\xff\xff\x01",
	bottom:  "\xff\xff\xff\xff\xff\xff\xff\xff\xff\x01",
}

// P2.1, P2.2: bytes that are written out.
func TestNumbersWrittenOut(t *testing.T) {
	for n, s := range written {
		if Put(n) != s {
			t.Errorf("Put(%d) = %x, want %x", n, Put(n), s)
		}
		if Size(n) != len(s) {
			t.Errorf("Size(%d) = %d, want %d", n, Size(n), len(s))
		}
		checkGet(t, s, 0, n, len(s), api.OK)
	}
}

// P2.1: Put and Size against numbers that have no end.
func TestPutAndSize(t *testing.T) {
	for _, n := range sample() {
		want := wantBytes(n)
		if Put(n) != want {
			t.Errorf("Put(%d) = %x, want %x", n, Put(n), want)
		}
		if Size(n) != len(want) {
			t.Errorf("Size(%d) = %d, want %d", n, Size(n), len(want))
		}
	}
}

// P2.1: where a byte more is needed, on both sides of 0.
func TestSizeGrowsAtItsBorders(t *testing.T) {
	for i, n := range borders() {
		size := i/4 + 1
		if i%4 >= 2 {
			size++
		}
		if Size(n) != size || len(Put(n)) != size {
			t.Errorf("Size(%d) = %d, with %d bytes; want %d", n, Size(n), len(Put(n)), size)
		}
	}
	if Size(0) != 1 || Size(top) != 10 || Size(bottom) != 10 {
		t.Errorf("Size at the ends: %d, %d, %d; want 1, 10, 10", Size(0), Size(top), Size(bottom))
	}
}

// P2.1: lists, empty ones and those whose count needs two bytes among them.
func TestList(t *testing.T) {
	for _, c := range []struct {
		l []int
		s string
	}{
		{nil, "\x00"},
		{[]int{}, "\x00"},
		{[]int{0}, "\x02\x00"},
		{[]int{5, -1, 64}, "\x06\x0a\x01\x80\x01"},
		{[]int{bottom}, "\x02\xff\xff\xff\xff\xff\xff\xff\xff\xff\x01"},
		{make([]int, 63), "\x7e" + strings.Repeat("\x00", 63)},
		{make([]int, 64), "\x80\x01" + strings.Repeat("\x00", 64)},
	} {
		if List(c.l) != c.s {
			t.Errorf("List(%v) = %x, want %x", c.l, List(c.l), c.s)
		}
	}
	l := sample()
	want := wantBytes(len(l))
	for _, n := range l {
		want += wantBytes(n)
	}
	if List(l) != want {
		t.Errorf("List of %d numbers = %x, want %x", len(l), List(l), want)
	}
}

// P2.1, R4: neither the list nor the room behind it is changed.
func TestListLeavesItsArgument(t *testing.T) {
	room := []int{7, bottom, -3, 11, 12}
	List(room[:3])
	if !slices.Equal(room, []int{7, bottom, -3, 11, 12}) {
		t.Errorf("the list handed in is now %v", room)
	}
}

// P2.2: a number among other bytes.
func TestGetAmongOthers(t *testing.T) {
	s := "\xff" + Put(-300) + Put(7) + "\x80"
	checkGet(t, s, 1, -300, 3, api.OK)
	checkGet(t, s, 2, 2, 3, api.OK)
	checkGet(t, s, 3, 7, 4, api.OK)
	checkGet(t, s, 4, 0, 0, api.ErrShort)
	checkGet(t, s, 5, 0, 0, api.ErrShort)
}

// P2.2: places that are none; at the end there are no bytes, but it is a place.
func TestGetAtPlaces(t *testing.T) {
	for _, s := range []string{"", "\x02", "\x02\x04\x06", "\x80\x00"} {
		for _, at := range []int{bottom, -1 << 32, -2, -1, len(s) + 1, len(s) + 2, 1 << 32, top} {
			checkGet(t, s, at, 0, 0, api.ErrArg)
		}
		checkGet(t, s, len(s), 0, 0, api.ErrShort)
	}
	checkGet(t, "\x02\x04\x06", 2, 3, 3, api.OK)
}

// P2.2: bytes that end too early, up to nine with the bit 128.
func TestGetShort(t *testing.T) {
	for size := range 10 {
		for _, b := range []string{"\x80", "\x81", "\xfe", "\xff"} {
			s := strings.Repeat(b, size)
			checkGet(t, s, 0, 0, 0, api.ErrShort)
			checkGet(t, "ab"+s, 2, 0, 0, api.ErrShort)
		}
	}
}

// P2.2: ten bytes and more with the bit 128 are no number's, whatever follows.
func TestGetTooLong(t *testing.T) {
	for size := 10; size < 25; size++ {
		for _, b := range []string{"\x80", "\x81", "\xff"} {
			for _, end := range []string{"", "\x00", "\x01", "\x7f"} {
				s := strings.Repeat(b, size) + end
				checkGet(t, s, 0, 0, 0, api.ErrForm)
				checkGet(t, "ab"+s, 2, 0, 0, api.ErrForm)
			}
		}
	}
}

// P2.2: more than 64 bits; of the tenth byte there is one bit alone.
func TestGetTooMuch(t *testing.T) {
	for last := range 256 {
		if last == 1 {
			continue
		}
		for _, b := range []string{"\x80", "\xff"} {
			checkGet(t, strings.Repeat(b, 9)+string([]byte{byte(last)}), 0, 0, 0, api.ErrForm)
		}
	}
	checkGet(t, strings.Repeat("\x80", 9)+"\x01", 0, 1<<62, 10, api.OK)
	checkGet(t, strings.Repeat("\xff", 9)+"\x01", 0, bottom, 10, api.OK)
}

// P2.2: nothing in the last one of several; a lone 0 is the number 0.
func TestGetNothingInTheLast(t *testing.T) {
	checkGet(t, "\x00", 0, 0, 1, api.OK)
	checkGet(t, "\x00\x00", 0, 0, 1, api.OK)
	for size := 1; size < 10; size++ {
		for _, b := range []string{"\x80", "\xff"} {
			checkGet(t, strings.Repeat(b, size)+"\x00", 0, 0, 0, api.ErrForm)
			checkGet(t, strings.Repeat(b, size)+"\x00\x01", 0, 0, 0, api.ErrForm)
		}
	}
}

// P2.2: all texts of up to five of these bytes, by themselves and where the tenth byte is near.
func TestGetAgainstUnboundedNumbers(t *testing.T) {
	texts := []string{""}
	for begin, size := 0, 0; size < 5; size++ {
		end := len(texts)
		for _, s := range texts[begin:end] {
			for _, b := range []byte{0, 1, 2, 127, 128, 255} {
				texts = append(texts, s+string([]byte{b}))
			}
		}
		begin = end
	}
	for _, ahead := range []string{"", "\xff\x80\xff\x80\x81\xff", "\x80\x80\x80\x80\x80\x80\x80\x80"} {
		for _, s := range texts {
			s = ahead + s
			for _, at := range []int{-1, 0, 1, len(s), len(s) + 1} {
				n, behind, e := wantGet(s, at)
				checkGet(t, s, at, n, behind, e)
			}
		}
	}
}

// P2.3: ordinary lists, by themselves and among other bytes.
func TestGetList(t *testing.T) {
	checkGetList(t, "\x00", 0, 0, nil, 1, api.OK)
	checkGetList(t, "\x00", 0, top, nil, 1, api.OK)
	checkGetList(t, "\x06\x0a\x01\x80\x01", 0, 3, []int{5, -1, 64}, 5, api.OK)
	checkGetList(t, "\xff\x04\x02\x04\xff", 1, 2, []int{1, 2}, 4, api.OK)
	checkGetList(t, "\xff\x04\x02\x04\xff", 2, 5, []int{2}, 4, api.OK)
	checkGetList(t, "\x04\x02\x04", 0, top, []int{1, 2}, 3, api.OK)
}

// P2.3: a most below 0, and places that are none, go ahead of all else.
func TestGetListArguments(t *testing.T) {
	s := "\x04\x02\x04"
	for _, most := range []int{-1, -2, bottom} {
		for _, text := range []string{s, "", "\x00", "\x01", "\x80", "\x80\x00"} {
			checkGetList(t, text, 0, most, nil, 0, api.ErrArg)
		}
		checkGetList(t, s, 9, most, nil, 0, api.ErrArg)
	}
	for _, at := range []int{bottom, -1, 4, 5, top} {
		checkGetList(t, s, at, 0, nil, 0, api.ErrArg)
		checkGetList(t, s, at, 9, nil, 0, api.ErrArg)
	}
	checkGetList(t, s, 3, 9, nil, 0, api.ErrShort)
}

// P2.3: the count's own errors, a count below 0, and one above most, in this order.
func TestGetListCount(t *testing.T) {
	checkGetList(t, "", 0, 9, nil, 0, api.ErrShort)
	checkGetList(t, "\x80", 0, 9, nil, 0, api.ErrShort)
	checkGetList(t, "\x80\x00", 0, 9, nil, 0, api.ErrForm)
	checkGetList(t, strings.Repeat("\xff", 10), 0, 9, nil, 0, api.ErrForm)
	for _, n := range []int{-1, -2, -64, -65, bottom} {
		checkGetList(t, Put(n)+"\x02\x02", 0, 9, nil, 0, api.ErrForm)
		checkGetList(t, Put(n), 0, 0, nil, 0, api.ErrForm)
	}
	checkGetList(t, "\x02\x02", 0, 0, nil, 0, api.ErrBig)
	checkGetList(t, "\x06\x02\x02\x02", 0, 2, nil, 0, api.ErrBig)
	checkGetList(t, "\x06\x02\x02\x02", 0, 3, []int{1, 1, 1}, 4, api.OK)
	checkGetList(t, Put(top), 0, top-1, nil, 0, api.ErrBig)
}

// P2.3: ErrBig goes ahead of the errors of the numbers.
func TestGetListBigAheadOfNumbers(t *testing.T) {
	checkGetList(t, "\x06", 0, 2, nil, 0, api.ErrBig)
	checkGetList(t, "\x06\x80\x00", 0, 2, nil, 0, api.ErrBig)
}

// P2.3: the first error of the numbers, however many are right ahead of it or wrong behind it.
func TestGetListErrorAmongNumbers(t *testing.T) {
	checkGetList(t, "\x02", 0, 9, nil, 0, api.ErrShort)
	checkGetList(t, "\x06\x02\x02", 0, 9, nil, 0, api.ErrShort)
	checkGetList(t, "\x06\x02\x02\x80", 0, 9, nil, 0, api.ErrShort)
	checkGetList(t, "\x06\x02\x80\x00\x02", 0, 9, nil, 0, api.ErrForm)
	checkGetList(t, "\x06\x02\x80\x00\x80", 0, 9, nil, 0, api.ErrForm)
	checkGetList(t, "\x04\x02"+strings.Repeat("\xff", 10), 0, 9, nil, 0, api.ErrForm)
	checkGetList(t, "\x04\x02"+strings.Repeat("\xff", 9), 0, 9, nil, 0, api.ErrShort)
}

// P2.3, R1: a count that tells of far more than there is ends, and soon.
func TestGetListOfGreatCount(t *testing.T) {
	for _, n := range []int{1 << 31, 1 << 40, 1 << 62, top} {
		checkGetList(t, Put(n)+"\x02\x02", 0, top, nil, 0, api.ErrShort)
		checkGetList(t, Put(n)+"\x02\x80\x00", 0, n, nil, 0, api.ErrForm)
	}
}

// P2.3, R4: two answers of the same bytes share no memory.
func TestGetListAnswersNewMemory(t *testing.T) {
	s := List([]int{1, 2, 3})
	a, _, _ := GetList(s, 0, 3)
	b, _, _ := GetList(s, 0, 3)
	a[0] = 9
	a = append(a, 9)
	if c, _, _ := GetList(s, 0, 3); !slices.Equal(b, []int{1, 2, 3}) || !slices.Equal(c, []int{1, 2, 3}) {
		t.Errorf("another answer was changed: %v, %v", b, c)
	}
}

// P2.4: what is put is got.
func TestLawOfPutAndGet(t *testing.T) {
	for _, n := range sample() {
		s := Put(n)
		checkGet(t, s, 0, n, len(s), api.OK)
		checkGet(t, "\xff\x80"+s+"\x00\xff", 2, n, 2+len(s), api.OK)
	}
	for n := -20000; n <= 20000; n++ {
		checkGet(t, Put(n), 0, n, Size(n), api.OK)
	}
}

// P2.4: what is got has just the bytes that are put.
func TestLawOfGetAndPut(t *testing.T) {
	for i := range 1 << 16 {
		s := string([]byte{byte(i), byte(i >> 8)})
		if n, behind, e := Get(s, 0); e == api.OK && Put(n) != s[:behind] {
			t.Errorf("%x is %d, whose bytes are %x", s, n, Put(n))
		}
	}
}

// P2.4: lists that are put are got.
func TestLawOfLists(t *testing.T) {
	l := sample()
	for size := range len(l) + 1 {
		s := List(l[:size])
		checkGetList(t, s, 0, size, l[:size], len(s), api.OK)
		checkGetList(t, "\x80"+s+"\x80", 1, top, l[:size], 1+len(s), api.OK)
		if size > 0 {
			checkGetList(t, s, 0, size-1, nil, 0, api.ErrBig)
			checkGetList(t, s[:len(s)-1], 0, size, nil, 0, api.ErrShort)
		}
	}
}

// P2.4: a number that is nearer to 0 has no more bytes.
func TestLawOfSizes(t *testing.T) {
	l := sample()
	for _, a := range l {
		for _, b := range l {
			if away(a) < away(b) && Size(a) > Size(b) {
				t.Errorf("Size(%d) = %d, but Size(%d) = %d", a, Size(a), b, Size(b))
			}
		}
	}
}

// away is how far a number is from 0.
func away(n int) uint64 {
	if n < 0 {
		return -uint64(n)
	}
	return uint64(n)
}
