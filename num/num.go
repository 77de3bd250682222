// Package num is layer 1: see shared/doc/01-num.md.
package num

// The operations.
const (
	Add = iota + 1
	Sub
	Mul
	Div
	Mod
	And
	Or
	Xor
	Shl
	Shr
	Lt
	Eq
)

var names = [...]string{
	Add: "ADD",
	Sub: "SUB",
	Mul: "MUL",
	Div: "DIV",
	Mod: "MOD",
	And: "AND",
	Or:  "OR",
	Xor: "XOR",
	Shl: "SHL",
	Shr: "SHR",
	Lt:  "LT",
	Eq:  "EQ",
}

// deed is what an operation does: the number, and whether it is a fault.
type deed func(a, b int) (int, bool)

// Two is what an operation makes of two numbers, and whether it is a fault.
func Two(op, a, b int) (int, bool) {
	return deedOf(op)(a, b)
}

func deedOf(op int) deed {
	switch op {
	case Add:
		return faultless(func(a, b int) int { return a + b })
	case Sub:
		return faultless(func(a, b int) int { return a - b })
	case Mul:
		return faultless(func(a, b int) int { return a * b })
	case Div:
		return divided(func(a, b int) int { return a / b })
	case Mod:
		return divided(func(a, b int) int { return a % b })
	case And:
		return faultless(func(a, b int) int { return a & b })
	case Or:
		return faultless(func(a, b int) int { return a | b })
	case Xor:
		return faultless(func(a, b int) int { return a ^ b })
	case Shl:
		return shifted(func(a, by int) int { return a << by })
	case Shr:
		return shifted(func(a, by int) int { return a >> by })
	case Lt:
		return truth(func(a, b int) bool { return a < b })
	case Eq:
		return truth(func(a, b int) bool { return a == b })
	}
	return func(a, b int) (int, bool) { return 0, true }
}

func faultless(reckon func(a, b int) int) deed {
	return func(a, b int) (int, bool) { return reckon(a, b), false }
}

// divided keeps 0 away from part: Go panics at it, where the machine goes on.
func divided(part func(a, b int) int) deed {
	return func(a, b int) (int, bool) {
		if b == 0 {
			return 0, true
		}
		return part(a, b), false
	}
}

// shifted cuts b to its low six bits: they are b modulo 64 for numbers below 0, too.
func shifted(shift func(a, by int) int) deed {
	return func(a, b int) (int, bool) { return shift(a, b&63), false }
}

func truth(tell func(a, b int) bool) deed {
	return func(a, b int) (int, bool) { return Bool(tell(a, b)), false }
}

// Neg is a number below 0, or above.
func Neg(a int) int {
	return -a
}

// Not tells whether a number is 0.
func Not(a int) int {
	return Bool(a == 0)
}

// Bool is a truth as a number.
func Bool(is bool) int {
	if is {
		return 1
	}
	return 0
}

// Name is an operation's name, or empty.
func Name(op int) string {
	if op < Add || op > Eq {
		return ""
	}
	return names[op]
}
