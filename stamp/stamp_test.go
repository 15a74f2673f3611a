package stamp_test

import (
	"cmp"
	"math"
	"math/big"
	"math/rand"
	"regexp"
	"slices"
	"strings"
	"testing"

	"towline/api"
	"towline/stamp"
)

const canonBits = 0x7ff8000000000000

var (
	minusZero  = math.Copysign(0, -1)
	leastAbove = math.Float64frombits(1)
	leastWhole = math.Float64frombits(1 << 52)
)

// noNumbers: bits of what is no number: quiet and signalling ones, with either sign.
func noNumbers() []uint64 {
	return []uint64{
		canonBits, 0x7ff8000000000001, 0x7ff0000000000001, 0x7fffffffffffffff,
		0xfff8000000000000, 0xfff0000000000001, 0xffffffffffffffff, 0xfff4000000000000,
	}
}

// rising: numbers in their order, as the document tells it.
func rising() []float64 {
	return []float64{
		math.Inf(-1), -math.MaxFloat64, -3, -1, -0.5, -leastWhole, -leastAbove, minusZero,
		0, leastAbove, leastWhole, 0.5, 1, 3, math.MaxFloat64, math.Inf(1), math.NaN(),
	}
}

func same(f, g float64) bool {
	return math.Float64bits(f) == math.Float64bits(g)
}

// anyFloat: any bits, those at the edges more often.
func anyFloat(r *rand.Rand) float64 {
	bits := r.Uint64()
	switch r.Intn(4) {
	case 0:
		bits &= 1<<63 | (1<<52 - 1)
	case 1:
		bits = bits>>r.Intn(64)<<r.Intn(64) ^ 0x3ff<<52
	}
	return math.Float64frombits(bits)
}

// P1.1

func TestCanonOfNoNumberIsOne(t *testing.T) {
	for _, bits := range noNumbers() {
		if got := math.Float64bits(stamp.Canon(math.Float64frombits(bits))); got != canonBits {
			t.Errorf("Canon of the bits %x: %x", bits, got)
		}
	}
}

func TestCanonLeavesNumbers(t *testing.T) {
	for _, f := range rising()[:16] {
		if got := stamp.Canon(f); !same(got, f) {
			t.Errorf("Canon of %v: %v", f, got)
		}
	}
}

func TestKey(t *testing.T) {
	for _, c := range []struct {
		bits, want uint64
	}{
		{0, 1 << 63},
		{1 << 63, 1<<63 - 1},
		{1, 1<<63 + 1},
		{1<<63 + 1, 1<<63 - 2},
		{0x3ff0000000000000, 0xbff0000000000000},
		{0xbff0000000000000, 0x400fffffffffffff},
		{0x7ff0000000000000, 0xfff0000000000000},
		{0xfff0000000000000, 0x000fffffffffffff},
	} {
		if got := stamp.Key(math.Float64frombits(c.bits)); got != c.want {
			t.Errorf("Key of the bits %x: %x, not %x", c.bits, got, c.want)
		}
	}
	for _, bits := range noNumbers() {
		if got := stamp.Key(math.Float64frombits(bits)); got != 0xfff8000000000000 {
			t.Errorf("Key of the bits %x: %x", bits, got)
		}
	}
}

func TestCompareIsOneOrder(t *testing.T) {
	list := rising()
	for i, a := range list {
		for j, b := range list {
			if got := stamp.Compare(a, b); got != cmp.Compare(i, j) {
				t.Errorf("Compare of %v and %v: %d", a, b, got)
			}
		}
	}
	for _, a := range noNumbers() {
		for _, b := range noNumbers() {
			if got := stamp.Compare(math.Float64frombits(a), math.Float64frombits(b)); got != 0 {
				t.Errorf("Compare of the bits %x and %x: %d", a, b, got)
			}
		}
	}
}

func TestCompareGoesByKey(t *testing.T) {
	r := rand.New(rand.NewSource(11))
	for range 20000 {
		a, b := anyFloat(r), anyFloat(r)
		if got := stamp.Compare(a, b); got != cmp.Compare(stamp.Key(a), stamp.Key(b)) {
			t.Fatalf("Compare of %v and %v: %d", a, b, got)
		}
		if a < b && stamp.Compare(a, b) != -1 || a > b && stamp.Compare(a, b) != 1 {
			t.Fatalf("Compare of %v and %v is not the order of numbers", a, b)
		}
	}
}

// P1.2

func TestLatest(t *testing.T) {
	odd := math.Float64frombits(0xfff0000000000001)
	for _, c := range []struct {
		list []float64
		want float64
	}{
		{nil, math.Inf(-1)},
		{[]float64{}, math.Inf(-1)},
		{[]float64{math.Inf(-1)}, math.Inf(-1)},
		{[]float64{-5}, -5},
		{[]float64{1, 3, 2}, 3},
		{[]float64{3, 2, 1}, 3},
		{[]float64{0, minusZero}, 0},
		{[]float64{minusZero, 0}, 0},
		{[]float64{minusZero, -1, minusZero}, minusZero},
		{[]float64{1, math.Inf(1), 2}, math.Inf(1)},
		{[]float64{1, math.NaN(), math.Inf(1)}, stamp.Canon(odd)},
		{[]float64{odd, 1}, stamp.Canon(odd)},
		{[]float64{odd}, stamp.Canon(odd)},
	} {
		if got := stamp.Latest(c.list...); !same(got, c.want) {
			t.Errorf("Latest of %v: %v", c.list, got)
		}
	}
}

func TestRatio(t *testing.T) {
	canon := math.Float64frombits(canonBits)
	for _, c := range []struct {
		a, b int
		want float64
	}{
		{1, 2, 0.5},
		{-1, 2, -0.5},
		{1, 3, 1.0 / 3},
		{7, 1, 7},
		{0, 5, 0},
		{0, -1, minusZero},
		{1, 0, math.Inf(1)},
		{-1, 0, math.Inf(-1)},
		{0, 0, canon},
		{math.MaxInt64, 1, 1 << 63},
		{math.MinInt64, -1, 1 << 63},
		{math.MinInt64, math.MaxInt64, -1},
		{1<<53 + 1, 1, 1 << 53},
	} {
		if got := stamp.Ratio(c.a, c.b); !same(got, c.want) {
			t.Errorf("Ratio of %d and %d: %v", c.a, c.b, got)
		}
	}
}

// P1.3 and P1.4

// texts: numbers and their texts, from the edges too.
func texts() map[string]float64 {
	return map[string]float64{
		"nan": math.Float64frombits(canonBits), "inf": math.Inf(1), "-inf": math.Inf(-1), "0": 0, "-0": minusZero,
		"1p0": 1, "-1p0": -1, "1p-1": 0.5, "-1p-1": -0.5, "3p0": 3, "3p2": 12, "-3p2": -12, "5p1": 10, "1p10": 1024,
		"3602879701896397p-55": 0.1,
		"9007199254740991p0":   1<<53 - 1,
		"1p53":                 1 << 53,
		"1p1023":               math.Ldexp(1, 1023),
		"9007199254740991p971": math.MaxFloat64, "-9007199254740991p971": -math.MaxFloat64,
		"1p-1074": leastAbove, "-1p-1074": -leastAbove, "3p-1074": 3 * leastAbove, "1p-1073": 2 * leastAbove,
		"1p-1022":                leastWhole,
		"4503599627370495p-1074": leastWhole - leastAbove, "4503599627370497p-1074": leastWhole + leastAbove,
		"9007199254740991p-1074": 2*leastWhole - leastAbove,
	}
}

func TestPrint(t *testing.T) {
	for want, f := range texts() {
		if got := stamp.Print(f); got != want {
			t.Errorf("Print of %v: %q, not %q", f, got, want)
		}
	}
	for _, bits := range noNumbers() {
		if got := stamp.Print(math.Float64frombits(bits)); got != "nan" {
			t.Errorf("Print of the bits %x: %q", bits, got)
		}
	}
}

var numberText = regexp.MustCompile(`^(-?)([1-9][0-9]*)p(0|-?[1-9][0-9]*)$`)

// valueOf: the number that the text of a number means, reckoned exactly; and whether the text has the form of one.
func valueOf(s string) (*big.Float, bool) {
	parts := numberText.FindStringSubmatch(s)
	if parts == nil {
		return nil, false
	}
	m, _ := new(big.Int).SetString(parts[2], 10)
	power, _ := new(big.Int).SetString(parts[3], 10)
	if m.Bit(0) == 0 || !power.IsInt64() || power.Int64() < -5000 || power.Int64() > 5000 {
		return nil, false
	}
	f := new(big.Float).SetPrec(400).SetInt(m)
	f.SetMantExp(f, int(power.Int64()))
	if parts[1] == "-" {
		f.Neg(f)
	}
	return f, true
}

func TestPrintIsExact(t *testing.T) {
	r := rand.New(rand.NewSource(13))
	for range 20000 {
		f := anyFloat(r)
		if f == 0 || math.IsNaN(f) || math.IsInf(f, 0) {
			continue
		}
		got, ok := valueOf(stamp.Print(f))
		if !ok || got.Cmp(big.NewFloat(f)) != 0 {
			t.Fatalf("Print of %v: %q", f, stamp.Print(f))
		}
	}
}

func TestParse(t *testing.T) {
	for s, want := range texts() {
		if got, e := stamp.Parse(s); e != api.OK || !same(got, want) {
			t.Errorf("Parse of %q: %v, %v", s, got, e)
		}
	}
}

func TestParseTakesAllThatIsPrinted(t *testing.T) {
	r := rand.New(rand.NewSource(14))
	for range 20000 {
		f := anyFloat(r)
		if got, e := stamp.Parse(stamp.Print(f)); e != api.OK || !same(got, stamp.Canon(f)) {
			t.Fatalf("Parse of %q: %v, %v", stamp.Print(f), got, e)
		}
	}
}

func refused(t *testing.T, s string) {
	t.Helper()
	if got, e := stamp.Parse(s); e != api.ErrNumber || !same(got, 0) {
		t.Errorf("Parse of %q: %v, %v", s, got, e)
	}
}

func TestParseRefuses(t *testing.T) {
	for _, s := range []string{
		"", "-", "--", "p", "-p", "1", "p0", "1p", "1p-", "-p-", "1pp0", "1p0p0", "1p0.", "0.5", "1e0", "0x1p0",
		"2p0", "2p-2", "10p0", "0p0", "-0p0", "0p1", "00", "-00", "+0", "+1p0", "1p+0", "1p-0", "1p00", "1p01", "1p-01", "01p0", "001p0",
		"--0", "--1p0", "-+1p0", "NaN", "-nan", "+nan", "nan0", "Inf", "+inf", "--inf", "infinity", "-infinity", "in", "na",
		" 1p0", "1p0 ", "1 p0", "1p0\n", "1p0\x00", "\x001p0", "1P0", "1_1p0", "1p1_0", "\u0663p0", "1p\uff11", "\xff", "1\xffp0",
		"1p1024", "-1p1024", "3p1023", "9007199254740991p972", "9007199254740993p0", "9007199254740993p971", "18014398509481983p0",
		"1p-1075", "3p-1075", "9007199254740991p-1075", "5p-1080", "1p-5000",
		"1p9223372036854775807", "1p-9223372036854775808", "1p9223372036854775808", "1p99999999999999999999", "3p9223372036854774784",
		"18446744073709551615p0", "18446744073709551617p0", "36893488147419103233p-64",
	} {
		refused(t, s)
	}
	many := strings.Repeat("1", 100000)
	for _, s := range []string{many, many + "p0", "1p" + many, "1p-" + many, strings.Repeat("-", 100000), strings.Repeat("p", 100000), strings.Repeat("0", 100000) + "1p0"} {
		refused(t, s)
	}
}

// TestParseOfAllShortTexts holds every text of at most five of some signs against the form that the document tells.
func TestParseOfAllShortTexts(t *testing.T) {
	const signs = "0123p-+n"
	level := []string{""}
	for range 5 {
		var next []string
		for _, s := range level {
			for _, c := range signs {
				next = append(next, s+string(c))
			}
		}
		for _, s := range next {
			want, ok := valueOf(s)
			got, e := stamp.Parse(s)
			switch {
			case s == "0" || s == "-0":
				ok = e == api.OK && got == 0
			case ok:
				ok = e == api.OK && want.Cmp(big.NewFloat(got)) == 0
			default:
				ok = e == api.ErrNumber && same(got, 0)
			}
			if !ok {
				t.Fatalf("Parse of %q: %v, %v", s, got, e)
			}
		}
		level = next
	}
}

// P1

func TestAllTextsEnd(t *testing.T) {
	r := rand.New(rand.NewSource(15))
	for range 20000 {
		s := []byte(stamp.Print(anyFloat(r)))
		for range r.Intn(3) {
			s[r.Intn(len(s))] = byte(r.Intn(256))
		}
		f, e := stamp.Parse(string(s))
		if e == api.OK && stamp.Print(f) != string(s) || e != api.OK && (e != api.ErrNumber || !same(f, 0)) {
			t.Fatalf("Parse of %q: %v, %v", s, f, e)
		}
	}
}

// P2

func TestLatestLeavesItsList(t *testing.T) {
	odd := math.Float64frombits(0xfff8000000000007)
	room := []float64{3, odd, minusZero, 7, odd}
	before := slices.Clone(room)
	stamp.Latest(room[:3]...)
	for i := range room {
		if !same(room[i], before[i]) {
			t.Errorf("Latest changed place %d of its list", i)
		}
	}
}
