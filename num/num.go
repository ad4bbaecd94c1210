// Package num is layer 1: numbers that tell when they are too great: see shared/doc/01-num.md.
package num

import "usufruct/api"

// Is tells whether a number may be.
func Is(n int) bool {
	return -api.MaxNumber <= n && n <= api.MaxNumber
}

// Add is a sum.
func Add(a, b int) (int, api.Errno) {
	// Numbers that may not be are refused ahead of adding: an int wraps round, and could come out as one that may.
	if !Is(a) || !Is(b) {
		return 0, api.ErrRange
	}
	return told(a + b)
}

// Sub is a difference.
func Sub(a, b int) (int, api.Errno) {
	if !Is(a) || !Is(b) {
		return 0, api.ErrRange
	}
	return told(a - b)
}

// Mul is a product.
func Mul(a, b int) (int, api.Errno) {
	if !Is(a) || !Is(b) || tooGreat(a, b) {
		return 0, api.ErrRange
	}
	return a * b, api.OK
}

// Must is a number, or a panic.
func Must(n int, e api.Errno) int {
	if e != api.OK {
		panic(e)
	}
	return n
}

// Try is what a function tells, or the error with which it panics.
func Try(f func() int) (n int, e api.Errno) {
	if f == nil {
		return 0, api.ErrRange
	}
	defer func() {
		if p := recover(); p != nil {
			e = carried(p)
		}
	}()
	return f(), api.OK
}

// Sum is all, added.
func Sum(l ...int) (int, api.Errno) {
	return Try(func() int {
		sum := 0
		for _, n := range l {
			sum = Must(Add(sum, n))
		}
		return sum
	})
}

func told(n int) (int, api.Errno) {
	if !Is(n) {
		return 0, api.ErrRange
	}
	return n, api.OK
}

// tooGreat tells, of two numbers that may be, whether their product may not; it divides, as the product itself may need 81 bits.
func tooGreat(a, b int) bool {
	return b != 0 && size(a) > api.MaxNumber/size(b)
}

func size(n int) int {
	if n < 0 {
		return -n
	}
	return n
}

// carried is the error of api's that a panic brought up; of any other panic nobody here knows what to do, so it goes on.
func carried(p any) api.Errno {
	e, ok := p.(api.Errno)
	if !ok {
		panic(p)
	}
	return e
}
