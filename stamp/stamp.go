// Package stamp gives numbers with a point one order, one form of bits and one text, their edges too.
package stamp

import (
	"cmp"
	"math"

	"towline/api"
)

const (
	signBit = 1 << 63
	// noNumber is the one form of bits of what is no number.
	noNumber = 0x7ff8000000000000
)

// Canon: the number in its one form.
func Canon(f float64) float64 {
	if math.IsNaN(f) {
		return math.Float64frombits(noNumber)
	}
	return f
}

// Key: a number's place in the order.
func Key(f float64) uint64 {
	bits := math.Float64bits(Canon(f))
	if bits&signBit != 0 {
		return ^bits
	}
	return bits | signBit
}

// Compare: -1, 0 or 1, as a stands ahead of b, is it, or stands behind it.
func Compare(a, b float64) int {
	return cmp.Compare(Key(a), Key(b))
}

// Latest: the number that stands last; of none minus infinity.
func Latest(list ...float64) float64 {
	last := math.Inf(-1)
	for _, f := range list {
		if Compare(f, last) > 0 {
			last = f
		}
	}
	return Canon(last)
}

// Ratio: one number divided by another.
func Ratio(a, b int) float64 {
	return Canon(float64(a) / float64(b))
}

// Parse: the number of a text.
func Parse(s string) (f float64, e api.Errno) {
	defer func() {
		if r := recover(); r != nil {
			code, ok := r.(api.Errno)
			if !ok {
				// No text gives up so: it would be a fault of the program, and isn't told as one of the text.
				panic(r)
			}
			f, e = 0, code
		}
	}()
	return read(s), api.OK
}
