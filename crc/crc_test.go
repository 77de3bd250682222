package crc

import (
	"math/big"
	"math/rand"
	"strings"
	"testing"
	"unsafe"

	"camshaft/api"
)

const (
	top    = 1<<63 - 1
	bottom = -1 << 63
)

// sample is texts of the named edges, and some of all lengths.
func sample() []string {
	l := []string{
		"", "\x00", "\x00\x00", "\x00\x00\x00", "\xff", "\xff\xff", "\xff\xff\xff", "\x01", "\x80", "\x7f",
		"a", "hello", "123456789", "\x00hello", "hello\x00", "\xc3\xa9\xe2\x82\xac", "\xe2\x82", "\x80\xbf\xfe",
		strings.Repeat("\x00", 300), strings.Repeat("\xff", 300),
	}
	r := rand.New(rand.NewSource(3))
	for size := range 70 {
		l = append(l, random(r, size))
	}
	return l
}

func random(r *rand.Rand, size int) string {
	b := make([]byte, size)
	r.Read(b)
	return string(b)
}

// sums is sums to go on from: below 0, 0, and at and beyond 2^16.
func sums() []int {
	return []int{
		0, 1, 255, 256, 4129, 32767, 32768, 65534, 65535,
		65536, 65537, 65536 + 4129, 2*65536 - 1, 2 * 65536, 1<<32 - 1, 1 << 32, 1<<32 + 7, 1 << 62, top - 1, top,
		-1, -2, -256, -4129, -32768, -65535, -65536, -65537, -1 << 32, -1<<32 - 7, bottom, bottom + 1,
	}
}

// modulo is a sum less the greatest multiple of 2^16 that isn't above it.
func modulo(sum int) int {
	return int(new(big.Int).Mod(big.NewInt(int64(sum)), big.NewInt(1<<16)).Int64())
}

// wantOn is the chapter's word of the sum again, bit by bit.
func wantOn(sum int, s string) int {
	n := modulo(sum)
	for _, b := range []byte(s) {
		n ^= int(b) * 256
		for range 8 {
			n *= 2
			if n >= 65536 {
				n = (n - 65536) ^ 4129
			}
		}
	}
	return n
}

// wantRest is the sum as what is left of a division: the bytes are a polynomial's bits, and 2^16 + 4129 divides it.
func wantRest(s string) int {
	left := new(big.Int).SetBytes([]byte(s + "\x00\x00"))
	for left.BitLen() > 16 {
		by := big.NewInt(65536 + 4129)
		left.Xor(left, by.Lsh(by, uint(left.BitLen()-17)))
	}
	return int(left.Int64())
}

func checkOpen(t *testing.T, s, others string, e api.Errno) {
	t.Helper()
	if gotOthers, gotE := Open(s); gotOthers != others || gotE != e {
		t.Errorf("Open(%q) = %q, %d; want %q, %d", s, gotOthers, gotE, others, e)
	}
}

// P3.1: sums that are written out, the chapter's example among them.
func TestOfWrittenOut(t *testing.T) {
	for s, n := range map[string]int{
		"":                 0,
		"\x00":             0,
		"\x00\x00\x00\x00": 0,
		"\x01":             4129,
		"\x00\x01":         4129,
		"\x02":             8258,
		"\x10":             0x1231,
		"\x80":             0x9188,
		"\xff":             0x1ef0,
		"\xff\xff":         0x1d0f,
		"A":                0x58e5,
		"123456789":        12739,
	} {
		if Of(s) != n {
			t.Errorf("Of(%q) = %x, want %x", s, Of(s), n)
		}
	}
}

// P3.1: no bytes at all, and bytes of 0, leave the sum at 0, however many.
func TestOfBytesOfZero(t *testing.T) {
	for size := range 100 {
		if n := Of(strings.Repeat("\x00", size)); n != 0 {
			t.Errorf("Of(%d bytes of 0) = %x", size, n)
		}
	}
}

// P3.1: against the rule, bit by bit, and against a division.
func TestOf(t *testing.T) {
	for _, s := range sample() {
		if n := wantOn(0, s); Of(s) != n || wantRest(s) != n {
			t.Errorf("Of(%q) = %x, want %x, and as a rest %x", s, Of(s), n, wantRest(s))
		}
	}
}

// P3.1: each text of one byte and of two.
func TestOfShortTexts(t *testing.T) {
	for i := range 1 << 16 {
		s := string([]byte{byte(i >> 8), byte(i)})
		if Of(s) != wantOn(0, s) {
			t.Errorf("Of(%q) = %x, want %x", s, Of(s), wantOn(0, s))
		}
		if Of(s[1:]) != wantOn(0, s[1:]) {
			t.Errorf("Of(%q) = %x, want %x", s[1:], Of(s[1:]), wantOn(0, s[1:]))
		}
	}
}

// P3.1: sums to go on from that are written out.
func TestOnWrittenOut(t *testing.T) {
	for _, c := range []struct {
		sum  int
		s    string
		want int
	}{
		{0, "", 0},
		{4129, "", 4129},
		{65535, "", 65535},
		{65536, "", 0},
		{65536 + 4129, "", 4129},
		{1 << 32, "", 0},
		{top, "", 65535},
		{-1, "", 65535},
		{-65535, "", 1},
		{-65536, "", 0},
		{-65537, "", 65535},
		{bottom, "", 0},
		{65535, "\xff\xff", 0},
		{65535, "123456789", 0x29b1},
		{-1, "123456789", 0x29b1},
		{0x1d0f, "123456789", 0xe5cc},
		{65536, "123456789", 12739},
		{256, "\x00", 4129},
		{256, "\x01", 0},
	} {
		if n := On(c.sum, c.s); n != c.want {
			t.Errorf("On(%d, %q) = %x, want %x", c.sum, c.s, n, c.want)
		}
	}
}

// P3.1: every sum to go on from, against the rule.
func TestOn(t *testing.T) {
	for _, sum := range sums() {
		for _, s := range sample() {
			if n := On(sum, s); n != wantOn(sum, s) {
				t.Errorf("On(%d, %q) = %x, want %x", sum, s, n, wantOn(sum, s))
			}
		}
	}
	for sum := range 1 << 16 {
		for _, s := range []string{"", "\x00", "\xff", "\x35\xca"} {
			if n := On(sum, s); n != wantOn(sum, s) {
				t.Errorf("On(%d, %q) = %x, want %x", sum, s, n, wantOn(sum, s))
			}
		}
	}
}

// P3.2: the higher byte of the sum stands first; no bytes are sealed, too.
func TestSealWrittenOut(t *testing.T) {
	for s, sealed := range map[string]string{
		"":          "\x00\x00",
		"\x00":      "\x00\x00\x00",
		"\x01":      "\x01\x10\x21",
		"\xff":      "\xff\x1e\xf0",
		"\xff\xff":  "\xff\xff\x1d\x0f",
		"123456789": "123456789\x31\xc3",
	} {
		if Seal(s) != sealed {
			t.Errorf("Seal(%q) = %q, want %q", s, Seal(s), sealed)
		}
		checkOpen(t, sealed, s, api.OK)
	}
}

// P3.2
func TestSeal(t *testing.T) {
	for _, s := range sample() {
		sum := wantOn(0, s)
		if want := s + string([]byte{byte(sum / 256), byte(sum % 256)}); Seal(s) != want {
			t.Errorf("Seal(%q) = %q, want %q", s, Seal(s), want)
		}
	}
}

// P3.2: fewer than two bytes are too short, whichever they are.
func TestOpenShort(t *testing.T) {
	checkOpen(t, "", "", api.ErrShort)
	for b := range 256 {
		checkOpen(t, string([]byte{byte(b)}), "", api.ErrShort)
	}
}

// P3.2: of just two bytes, two of 0 alone are the sum of no bytes.
func TestOpenOfTwoBytes(t *testing.T) {
	checkOpen(t, "\x00\x00", "", api.OK)
	for i := 1; i < 1<<16; i++ {
		checkOpen(t, string([]byte{byte(i >> 8), byte(i)}), "", api.ErrCrc)
	}
}

// P3.2: of all last two bytes just one pair is the sum of the others.
func TestOpenOfEachSum(t *testing.T) {
	for _, s := range []string{"\x00", "a", "hello", "\xff\xff\xff"} {
		for i := range 1 << 16 {
			sealed := s + string([]byte{byte(i >> 8), byte(i)})
			if i == wantOn(0, s) {
				checkOpen(t, sealed, s, api.OK)
			} else {
				checkOpen(t, sealed, "", api.ErrCrc)
			}
		}
	}
}

// P3.2: sums with their bytes the wrong way round, or of one byte, or ahead of the others.
func TestOpenOfWrongForms(t *testing.T) {
	checkOpen(t, "123456789\xc3\x31", "", api.ErrCrc)
	checkOpen(t, "123456789\x31", "", api.ErrCrc)
	checkOpen(t, "\x31\xc3123456789", "", api.ErrCrc)
	checkOpen(t, "123456789", "", api.ErrCrc)
	checkOpen(t, "123456789\x29\xb1", "", api.ErrCrc)
	checkOpen(t, "\xff\xff", "", api.ErrCrc)
}

// P3.2, R4: what is answered is new memory.
func TestAnswersAreNewMemory(t *testing.T) {
	s := Seal("hello")
	others, _ := Open(s)
	if unsafe.StringData(others) == unsafe.StringData(s) {
		t.Error("what is opened lies in what was handed in")
	}
	if unsafe.StringData(Seal(others)) == unsafe.StringData(others) {
		t.Error("what is sealed lies in what was handed in")
	}
}

// P3.3: what is sealed is opened, also once more.
func TestLawOfSealAndOpen(t *testing.T) {
	for _, s := range sample() {
		checkOpen(t, Seal(s), s, api.OK)
		checkOpen(t, Seal(Seal(s)), Seal(s), api.OK)
	}
}

// Bits of a byte are side by side from its upper end on, as they go into the sum, or from its lower end on.
func fromUpper(bit int) byte { return 128 >> bit }
func fromLower(bit int) byte { return 1 << bit }

// turned is s with the bits of turn laid over it, its uppermost one at a place.
// What of turn lies behind the last bit is left out.
func turned(s string, place int, turn uint16, from func(bit int) byte) string {
	b := []byte(s)
	for i := range 16 {
		bit := place + i
		if bit < 8*len(b) && turn>>(15-i)&1 == 1 {
			b[bit/8] ^= from(bit % 8)
		}
	}
	return string(b)
}

// P3.3: each choice among up to 16 bits side by side, wherever they stand.
func TestLawOfTurnedBits(t *testing.T) {
	for _, s := range []string{"", "\x00", "\xff", "ab", "\x00\x00\x00"} {
		sealed := Seal(s)
		for place := range 8 * len(sealed) {
			for rest := range 1 << 15 {
				turn := 1<<15 | uint16(rest)
				checkOpen(t, turned(sealed, place, turn, fromUpper), "", api.ErrCrc)
				checkOpen(t, turned(sealed, place, turn, fromLower), "", api.ErrCrc)
			}
		}
	}
}

// P3.3: 1 to 16 bits side by side, all of them turned, at each place of texts of all lengths.
func TestLawOfTurnedRows(t *testing.T) {
	for _, s := range sample() {
		sealed := Seal(s)
		for place := range 8 * len(sealed) {
			for many := 1; many <= 16; many++ {
				var turn uint16 = 0xffff << (16 - many)
				checkOpen(t, turned(sealed, place, turn, fromUpper), "", api.ErrCrc)
				checkOpen(t, turned(sealed, place, turn, fromLower), "", api.ErrCrc)
			}
		}
	}
}

// P3.3: the sum of bytes one behind the other goes on.
func TestLawOfGoingOn(t *testing.T) {
	l := sample()
	for _, a := range l {
		for _, b := range l {
			if n := On(Of(a), b); n != Of(a+b) {
				t.Errorf("On(Of(%q), %q) = %x, but of both %x", a, b, n, Of(a+b))
			}
		}
		for _, sum := range sums() {
			for cut := range len(a) + 1 {
				if n := On(On(sum, a[:cut]), a[cut:]); n != On(sum, a) {
					t.Errorf("from %d over %q, cut at %d: %x, but whole %x", sum, a, cut, n, On(sum, a))
				}
			}
		}
	}
}

// P3.3: the sum of what is sealed is 0.
func TestLawOfSealedSum(t *testing.T) {
	for _, s := range sample() {
		if n := Of(Seal(s)); n != 0 {
			t.Errorf("Of(Seal(%q)) = %x", s, n)
		}
	}
}
