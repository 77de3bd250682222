package num

import (
	"math/big"
	"math/rand"
	"testing"
)

const (
	top    = 1<<63 - 1
	bottom = -1 << 63
)

// sample is numbers at and beside the edges, and some of all sizes.
func sample() []int {
	l := []int{
		0, 1, 2, 3, 5, 7, 10, 31, 32, 62, 63, 64, 65, 66, 127, 128, 1000,
		1<<31 - 1, 1 << 31, 1<<32 - 1, 1 << 32, 1<<62 - 1, 1 << 62, 1<<62 + 1, top - 1, top,
		bottom, bottom + 1, bottom + 2,
	}
	for _, n := range l {
		l = append(l, -n)
	}
	r := rand.New(rand.NewSource(1))
	for range 40 {
		l = append(l, int(r.Uint64())>>r.Intn(64))
	}
	return l
}

// cut is a number modulo 2^64, from -2^63 on.
func cut(n *big.Int) int {
	low := new(big.Int).And(n, new(big.Int).SetUint64(1<<64-1))
	return int(low.Uint64())
}

func pow2(s int) *big.Int {
	return new(big.Int).Lsh(big.NewInt(1), uint(s))
}

// bitwise asks a rule for each of the 64 bits.
func bitwise(a, b int, rule func(x, y uint64) bool) int {
	var n uint64
	for i := range 64 {
		if rule(uint64(a)>>i&1, uint64(b)>>i&1) {
			n |= 1 << i
		}
	}
	return int(n)
}

// modulo64 is b less the greatest multiple of 64 that isn't above it.
func modulo64(b int) int {
	return int(new(big.Int).Mod(big.NewInt(int64(b)), big.NewInt(64)).Int64())
}

// want is P1.1 again, reckoned with numbers that have no end.
func want(op, a, b int) (int, bool) {
	x, y, n := big.NewInt(int64(a)), big.NewInt(int64(b)), new(big.Int)
	switch op {
	case Add:
		return cut(n.Add(x, y)), false
	case Sub:
		return cut(n.Sub(x, y)), false
	case Mul:
		return cut(n.Mul(x, y)), false
	case Div, Mod:
		if b == 0 {
			return 0, true
		}
		quotient, rest := n.QuoRem(x, y, new(big.Int))
		if op == Div {
			return cut(quotient), false
		}
		return cut(rest), false
	case And:
		return bitwise(a, b, func(x, y uint64) bool { return x+y == 2 }), false
	case Or:
		return bitwise(a, b, func(x, y uint64) bool { return x+y > 0 }), false
	case Xor:
		return bitwise(a, b, func(x, y uint64) bool { return x+y == 1 }), false
	case Shl:
		return cut(n.Mul(x, pow2(modulo64(b)))), false
	case Shr:
		// Div of math/big rounds down where the divisor is above 0.
		return cut(n.Div(x, pow2(modulo64(b)))), false
	case Lt:
		if x.Cmp(y) < 0 {
			return 1, false
		}
		return 0, false
	case Eq:
		if x.Cmp(y) == 0 {
			return 1, false
		}
		return 0, false
	}
	return 0, true
}

type two struct {
	op, a, b, n int
	fault       bool
}

func checkTwo(t *testing.T, cases []two) {
	t.Helper()
	for _, c := range cases {
		if n, fault := Two(c.op, c.a, c.b); n != c.n || fault != c.fault {
			t.Errorf("Two(%d, %d, %d) = %d, %v; want %d, %v", c.op, c.a, c.b, n, fault, c.n, c.fault)
		}
	}
}

func TestOperationsAreNumberedInOrder(t *testing.T) {
	for i, op := range []int{Add, Sub, Mul, Div, Mod, And, Or, Xor, Shl, Shr, Lt, Eq} {
		if op != i+1 {
			t.Errorf("operation %d has the number %d", i+1, op)
		}
	}
}

// P1.1: ordinary numbers.
func TestTwoOrdinary(t *testing.T) {
	checkTwo(t, []two{
		{Add, 2, 3, 5, false},
		{Sub, 2, 3, -1, false},
		{Mul, -4, 6, -24, false},
		{Div, 7, 2, 3, false},
		{Div, -7, 2, -3, false},
		{Div, 7, -2, -3, false},
		{Div, -7, -2, 3, false},
		{Mod, 7, 2, 1, false},
		{Mod, -7, 2, -1, false},
		{Mod, 7, -2, 1, false},
		{Mod, -7, -2, -1, false},
		{And, 12, 10, 8, false},
		{Or, 12, 10, 14, false},
		{Xor, 12, 10, 6, false},
		{Shl, 5, 3, 40, false},
		{Shr, 40, 3, 5, false},
		{Shr, -7, 1, -4, false},
		{Lt, 3, 4, 1, false},
		{Lt, 4, 4, 0, false},
		{Lt, 5, 4, 0, false},
		{Eq, 4, 4, 1, false},
		{Eq, 4, -4, 0, false},
	})
}

// P1.1: division by 0 is a fault, and the one quotient beyond 64 bits is none.
func TestTwoDivisionEdges(t *testing.T) {
	for _, a := range sample() {
		checkTwo(t, []two{{Div, a, 0, 0, true}, {Mod, a, 0, 0, true}})
	}
	checkTwo(t, []two{
		{Div, bottom, -1, bottom, false},
		{Mod, bottom, -1, 0, false},
		{Div, bottom, bottom, 1, false},
		{Mod, top, bottom, top, false},
		{Div, 0, 5, 0, false},
		{Mod, 0, -5, 0, false},
	})
}

// P1.1: shifts by 64 and more, and by numbers below 0.
func TestTwoShiftEdges(t *testing.T) {
	checkTwo(t, []two{
		{Shl, 3, 0, 3, false},
		{Shl, 1, 63, bottom, false},
		{Shl, 3, 63, bottom, false},
		{Shl, 3, 64, 3, false},
		{Shl, 3, 65, 6, false},
		{Shl, 1, -1, bottom, false},
		{Shl, 1, -63, 2, false},
		{Shl, 7, -64, 7, false},
		{Shl, 1, top, bottom, false},
		{Shl, 9, bottom, 9, false},
		{Shr, -1, 63, -1, false},
		{Shr, 1, 63, 0, false},
		{Shr, -9, 64, -9, false},
		{Shr, -9, 65, -5, false},
		{Shr, bottom, -1, -1, false},
		{Shr, top, -1, 0, false},
		{Shr, 8, -63, 4, false},
		{Shr, -5, bottom, -5, false},
	})
}

// P1.1: what is beyond 64 bits is cut away.
func TestTwoCutsAt64Bits(t *testing.T) {
	checkTwo(t, []two{
		{Add, top, 1, bottom, false},
		{Add, bottom, bottom, 0, false},
		{Sub, bottom, 1, top, false},
		{Sub, 0, bottom, bottom, false},
		{Mul, bottom, -1, bottom, false},
		{Mul, top, top, 1, false},
		{Mul, 1 << 32, 1 << 32, 0, false},
		{Shl, top, 1, -2, false},
		{Lt, bottom, top, 1, false},
		{Lt, top, bottom, 0, false},
	})
}

// P1.1: numbers that are no operation.
func TestTwoOfNoOperation(t *testing.T) {
	for _, op := range []int{bottom, -13, -12, -1, 0, Eq + 1, 14, 256 + Add, 1<<32 + Add, top} {
		checkTwo(t, []two{{op, 4, 5, 0, true}, {op, 0, 0, 0, true}, {op, bottom, -1, 0, true}})
	}
}

// P1.1: every operation on all pairs, against numbers that have no end.
func TestTwoAgainstUnboundedNumbers(t *testing.T) {
	l := sample()
	for op := Add - 1; op <= Eq+1; op++ {
		for _, a := range l {
			for _, b := range l {
				n, fault := want(op, a, b)
				checkTwo(t, []two{{op, a, b, n, fault}})
			}
		}
	}
}

// P1.2
func TestNeg(t *testing.T) {
	for _, a := range sample() {
		if n := Neg(a); n != cut(new(big.Int).Neg(big.NewInt(int64(a)))) {
			t.Errorf("Neg(%d) = %d", a, n)
		}
	}
	for a, n := range map[int]int{0: 0, 3: -3, -3: 3, top: bottom + 1, bottom: bottom} {
		if Neg(a) != n {
			t.Errorf("Neg(%d) = %d, want %d", a, Neg(a), n)
		}
	}
}

// P1.2
func TestNot(t *testing.T) {
	for _, a := range sample() {
		n := 0
		if a == 0 {
			n = 1
		}
		if Not(a) != n {
			t.Errorf("Not(%d) = %d, want %d", a, Not(a), n)
		}
	}
}

// P1.2
func TestBool(t *testing.T) {
	if Bool(true) != 1 || Bool(false) != 0 {
		t.Errorf("Bool = %d, %d; want 1, 0", Bool(true), Bool(false))
	}
}

// P1.2
func TestName(t *testing.T) {
	for i, s := range []string{"ADD", "SUB", "MUL", "DIV", "MOD", "AND", "OR", "XOR", "SHL", "SHR", "LT", "EQ"} {
		if Name(i+1) != s {
			t.Errorf("Name(%d) = %q, want %q", i+1, Name(i+1), s)
		}
	}
	for _, op := range []int{bottom, -1, 0, 13, 14, 256 + Add, 1<<32 + Add, top} {
		if Name(op) != "" {
			t.Errorf("Name(%d) = %q, want an empty one", op, Name(op))
		}
	}
}

func number(op, a, b int) int {
	n, _ := Two(op, a, b)
	return n
}

// P1.3: a is b times Div and Mod, where there is a division.
func TestLawOfDivision(t *testing.T) {
	for _, a := range sample() {
		for _, b := range sample() {
			if b == 0 {
				continue
			}
			whole := number(Mul, b, number(Div, a, b))
			if n := number(Add, whole, number(Mod, a, b)); n != a {
				t.Errorf("of %d by %d: b times Div and Mod is %d", a, b, n)
			}
		}
	}
}

// P1.3: these go both ways.
func TestLawOfBothWays(t *testing.T) {
	for _, op := range []int{Add, Mul, And, Or, Xor, Eq} {
		for _, a := range sample() {
			for _, b := range sample() {
				n, fault := Two(op, a, b)
				back, backFault := Two(op, b, a)
				if n != back || fault || backFault {
					t.Errorf("%s of %d and %d: %d, the other way %d", Name(op), a, b, n, back)
				}
			}
		}
	}
}

// P1.3: what is added is taken away by Sub.
func TestLawOfSub(t *testing.T) {
	for _, a := range sample() {
		for _, b := range sample() {
			if n := number(Sub, number(Add, a, b), b); n != a {
				t.Errorf("%d and %d, less %d, is %d", a, b, b, n)
			}
		}
	}
}
