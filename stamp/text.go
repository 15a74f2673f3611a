package stamp

import (
	"math"
	"math/bits"
	"strconv"
	"strings"

	"towline/api"
)

// The shape of a number with a point: so many bits has its fraction, and the least number above 0 is two to the power of lowest.
const (
	fractionBits = 52
	lowest       = -1074
)

// Print: a number as text: an odd number times a power of two.
func Print(f float64) string {
	switch {
	case math.IsNaN(f):
		return "nan"
	case math.IsInf(f, 1):
		return "inf"
	case math.IsInf(f, -1):
		return "-inf"
	case math.Signbit(f):
		return "-" + printPlain(-f)
	}
	return printPlain(f)
}

// printPlain prints a number that is neither below 0 nor infinite.
func printPlain(f float64) string {
	if f == 0 {
		return "0"
	}
	odd, power := split(f)
	return strconv.FormatUint(odd, 10) + "p" + strconv.Itoa(power)
}

// split: the odd number and the power of two of which a number above 0 is made.
func split(f float64) (odd uint64, power int) {
	all := math.Float64bits(f)
	odd = all & (1<<fractionBits - 1)
	power = lowest
	if exponent := int(all >> fractionBits); exponent > 0 {
		// Only numbers with an exponent have a one ahead of the fraction that isn't written.
		odd |= 1 << fractionBits
		power += exponent - 1
	}
	noughts := bits.TrailingZeros64(odd)
	return odd >> noughts, power + noughts
}

// read: the number of a text; it gives up by panic where there is none.
func read(s string) float64 {
	plain, below := strings.CutPrefix(s, "-")
	f := readPlain(plain)
	if below {
		f = -f
	}
	// The parts may be written in other ways too, or be rounded: only what is printed again is the text of a number.
	if Print(f) != s {
		panic(api.ErrNumber)
	}
	return Canon(f)
}

// readPlain: the number of a text without a sign.
func readPlain(s string) float64 {
	switch s {
	case "nan":
		return math.NaN()
	case "inf":
		return math.Inf(1)
	case "0":
		return 0
	}
	digits, powerDigits, found := strings.Cut(s, "p")
	if !found {
		panic(api.ErrNumber)
	}
	odd, err := strconv.ParseUint(digits, 10, 64)
	if err != nil {
		panic(api.ErrNumber)
	}
	power, err := strconv.Atoi(powerDigits)
	if err != nil {
		panic(api.ErrNumber)
	}
	return math.Ldexp(float64(odd), power)
}
