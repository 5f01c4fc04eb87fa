package ratio

import (
	"math/bits"

	"lookout/api"
)

// A wide is an integer of 128 bits in two's complement. Nothing here overflows: the sum of two products of numbers up to MaxInt is at most 2^121, and divide doubles what is not greater once more.
type wide struct {
	high, low uint64
}

func widen(n int) wide {
	return wide{uint64(n >> 63), uint64(n)}
}

func product(a, b int) wide {
	return widen(a).times(widen(b))
}

func (a wide) plus(b wide) wide {
	low, carry := bits.Add64(a.low, b.low, 0)
	return wide{a.high + b.high + carry, low}
}

func (a wide) minus(b wide) wide {
	low, borrow := bits.Sub64(a.low, b.low, 0)
	return wide{a.high - b.high - borrow, low}
}

func (a wide) times(b wide) wide {
	high, low := bits.Mul64(a.low, b.low)
	return wide{high + a.high*b.low + a.low*b.high, low}
}

func (a wide) negative() bool {
	return int64(a.high) < 0
}

func (a wide) less(b wide) bool {
	return a.minus(b).negative()
}

func (a wide) magnitude() wide {
	if a.negative() {
		return wide{}.minus(a)
	}
	return a
}

// divide returns the quotient and the remainder of two numbers that are not negative, the second of which is not 0.
func (a wide) divide(b wide) (quotient, remainder wide) {
	// Most fractions are small, and the processor divides words at once.
	if a.high == 0 && b.high == 0 {
		return wide{0, a.low / b.low}, wide{0, a.low % b.low}
	}
	if a.less(b) {
		return wide{}, a
	}
	quotient, remainder = a.divide(b.plus(b))
	quotient = quotient.plus(quotient)
	if !remainder.less(b) {
		quotient, remainder = quotient.plus(widen(1)), remainder.minus(b)
	}
	return quotient, remainder
}

// commonDivisor returns the greatest common divisor of two numbers that are not negative.
func (a wide) commonDivisor(b wide) wide {
	for b != (wide{}) {
		_, remainder := a.divide(b)
		a, b = b, remainder
	}
	return a
}

// narrow returns a number that is not negative as an int. It panics if that is greater than MaxInt.
func (a wide) narrow() int {
	if a.high != 0 || a.low > api.MaxInt {
		panic(api.ErrOverflow)
	}
	return int(a.low)
}
