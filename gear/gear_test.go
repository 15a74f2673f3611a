package gear_test

import (
	"bytes"
	"math"
	"math/big"
	"math/rand"
	"slices"
	"testing"

	"towline/api"
	"towline/gear"
)

// noise: so many bytes, the same for the same seed.
func noise(seed int64, n int) []byte {
	b := make([]byte, n)
	rand.New(rand.NewSource(seed)).Read(b)
	return b
}

// P4.1

func TestCheck(t *testing.T) {
	const most = 1 << 20
	if gear.MaxChunk != most || gear.MaxBits != 20 {
		t.Error("the limits")
	}
	for _, p := range []gear.Params{{1, 1, 0}, {1, most, 20}, {most, most, 0}, {2, 9, 0}, {5, 5, 20}, {1, 2, 1}} {
		if e := p.Check(); e != api.OK {
			t.Errorf("Check of %v: %v", p, e)
		}
	}
	for _, p := range wrong() {
		if e := p.Check(); e != api.ErrRange {
			t.Errorf("Check of %v: %v", p, e)
		}
	}
}

// wrong: by which nothing can be cut.
func wrong() []gear.Params {
	return []gear.Params{
		{}, {0, 9, 3}, {-1, 9, 3}, {math.MinInt, 9, 3}, {0, 0, 0},
		{3, 2, 3}, {3, 0, 3}, {3, -3, 3}, {-2, -1, 3}, {math.MaxInt, 9, 3}, {1, math.MinInt, 3},
		{1, 1<<20 + 1, 3}, {1, math.MaxInt, 3}, {1<<20 + 1, 1<<20 + 1, 3}, {1, 1 << 32, 3}, {1<<32 + 1, 1<<32 + 9, 3},
		{1, 9, -1}, {1, 9, 21}, {1, 9, 64}, {1, 9, math.MinInt}, {1, 9, math.MaxInt}, {1, 9, 1 << 32}, {1, 9, -64},
	}
}

// gearOf: a byte's number, reckoned with whole numbers of any size.
func gearOf(x byte) uint64 {
	all := new(big.Int).Lsh(big.NewInt(1), 64)
	times := func(z *big.Int, by string) *big.Int {
		n, _ := new(big.Int).SetString(by, 10)
		return new(big.Int).Mod(n.Mul(n, z), all)
	}
	moved := func(z *big.Int, by uint) *big.Int {
		return new(big.Int).Xor(z, new(big.Int).Rsh(z, by))
	}
	z := times(big.NewInt(int64(x)+1), "11400714819323198485")
	z = times(moved(z, 30), "13787848793156543929")
	z = times(moved(z, 27), "10723151780598845931")
	return moved(z, 31).Uint64()
}

func TestGear(t *testing.T) {
	for x, want := range []uint64{0xe220a8397b1dcdaf, 0x6e789e6aa1b965f4, 0x06c45d188009454f, 0xf88bb8a8724c81ec} {
		if got := gear.Gear(byte(x)); got != want {
			t.Errorf("Gear of %d: %x, not %x", x, got, want)
		}
	}
	for x := range 256 {
		if got := gear.Gear(byte(x)); got != gearOf(byte(x)) {
			t.Errorf("Gear of %d: %x, not %x", x, got, gearOf(byte(x)))
		}
	}
}

// P4.2

// cutOf: the same from the words, a bit at a time.
func cutOf(b []byte, p gear.Params) []int {
	var own [256]uint64
	for x := range own {
		own[x] = gearOf(byte(x))
	}
	var lengths []int
	hash, n := uint64(0), 0
	for i, x := range b {
		hash += hash
		hash += own[x]
		n++
		noughts := 0
		for noughts < 64 && hash&(1<<63>>noughts) == 0 {
			noughts++
		}
		if n == p.Max || n >= p.Min && noughts >= p.Bits || i == len(b)-1 {
			lengths = append(lengths, n)
			hash, n = 0, 0
		}
	}
	return lengths
}

func cut(t *testing.T, b []byte, p gear.Params, want []int) {
	t.Helper()
	got, e := gear.Cut(b, p)
	if e != api.OK || !slices.Equal(got, want) {
		t.Errorf("Cut of %d bytes by %v: %v, %v, not %v", len(b), p, got, e, want)
	}
}

func TestCut(t *testing.T) {
	five := []byte("abcde")
	cut(t, five, gear.Params{Min: 2, Max: 9}, []int{2, 2, 1})
	cut(t, five, gear.Params{Min: 1, Max: 9}, []int{1, 1, 1, 1, 1})
	cut(t, five, gear.Params{Min: 5, Max: 9}, []int{5})
	cut(t, five, gear.Params{Min: 6, Max: 9}, []int{5})
	cut(t, five, gear.Params{Min: 4, Max: 4, Bits: 20}, []int{4, 1})
	cut(t, five, gear.Params{Min: 1, Max: 1, Bits: 20}, []int{1, 1, 1, 1, 1})
	cut(t, nil, gear.Params{Min: 1, Max: 9, Bits: 3}, nil)
	cut(t, []byte{}, gear.Params{Min: 2, Max: 9}, nil)
}

// With one bit, a chunk of one byte ends where the byte's number is below 2^63: 1 and 2 have such ones, 0 and 3 don't.
func TestCutByTheHighestBit(t *testing.T) {
	p := gear.Params{Min: 1, Max: 9, Bits: 1}
	cut(t, []byte{1, 2, 1}, p, []int{1, 1, 1})
	cut(t, []byte{0}, p, []int{1})
	// 2 times e220.. plus 6e78.. has its highest bit 0 (32ba..); 2 times that of 3 (f88b..) plus itself has it 1 (e9a3..).
	cut(t, []byte{0, 1, 1}, p, []int{2, 1})
	cut(t, []byte{3, 3}, p, []int{2})
	cut(t, []byte{3, 3, 2}, p, []int{3})
}

func TestCutByMostBytes(t *testing.T) {
	// No hash of these has 20 noughts ahead: only Max ends a chunk.
	b := bytes.Repeat([]byte{3}, 100)
	cut(t, b, gear.Params{Min: 1, Max: 30, Bits: 20}, []int{30, 30, 30, 10})
	cut(t, b, gear.Params{Min: 30, Max: 30, Bits: 20}, []int{30, 30, 30, 10})
	cut(t, b, gear.Params{Min: 1, Max: 100, Bits: 20}, []int{100})
	cut(t, b, gear.Params{Min: 1, Max: 50, Bits: 20}, []int{50, 50})
	big := bytes.Repeat([]byte{3}, 1<<21+1)
	cut(t, big, gear.Params{Min: 1, Max: 1 << 20, Bits: 20}, []int{1 << 20, 1 << 20, 1})
	cut(t, big, gear.Params{Min: 1 << 20, Max: 1 << 20}, []int{1 << 20, 1 << 20, 1})
}

func TestCutOfNoise(t *testing.T) {
	r := rand.New(rand.NewSource(1))
	for range 1500 {
		b := noise(r.Int63(), r.Intn(300))
		if r.Intn(3) == 0 {
			for i := range b {
				b[i] %= 3
			}
		}
		p := gear.Params{Min: 1 + r.Intn(40), Bits: r.Intn(8)}
		p.Max = p.Min + r.Intn(100)
		if r.Intn(20) == 0 {
			p.Bits = 20
		}
		cut(t, b, p, cutOf(b, p))
	}
}

// All bit counts: so many bytes that with each of them some chunk ends by its bits.
func TestCutByAllBits(t *testing.T) {
	b := noise(2, 1<<22)
	for bits := range 21 {
		p := gear.Params{Min: 1 << min(bits, 6), Max: 1 << 20, Bits: bits}
		want := cutOf(b, p)
		if len(want) <= 4 {
			t.Fatalf("no chunk ends by %d bits", bits)
		}
		if got, e := gear.Cut(b, p); e != api.OK || !slices.Equal(got, want) {
			t.Errorf("Cut of noise by %v: %d chunks, %v, not %d", p, len(got), e, len(want))
		}
	}
}

// What stands behind a chunk's end makes no difference to it, and equal rests are cut alike.
func TestCutFindsItselfAgain(t *testing.T) {
	b := noise(3, 20000)
	p := gear.Params{Min: 16, Max: 400, Bits: 5}
	one, _ := gear.Cut(b, p)
	for k := range 5 {
		at := 0
		for _, n := range one[:10*k] {
			at += n
		}
		cut(t, b[at:], p, one[10*k:])
	}
}

func TestNothingCut(t *testing.T) {
	for _, p := range wrong() {
		for _, b := range [][]byte{nil, []byte("abcde")} {
			if l, e := gear.Cut(b, p); e != api.ErrRange || len(l) != 0 {
				t.Errorf("Cut by %v: %v, %v", p, l, e)
			}
			if c, e := gear.Split(b, p); e != api.ErrRange || len(c) != 0 {
				t.Errorf("Split by %v: %q, %v", p, c, e)
			}
		}
	}
}

// P4.3

func TestSplit(t *testing.T) {
	got, e := gear.Split([]byte("abcde"), gear.Params{Min: 2, Max: 9})
	if e != api.OK || !slices.EqualFunc(got, []string{"ab", "cd", "e"}, func(c []byte, s string) bool { return string(c) == s }) {
		t.Errorf("Split: %q, %v", got, e)
	}
	if got, e := gear.Split(nil, gear.Params{Min: 2, Max: 9}); e != api.OK || len(got) != 0 {
		t.Errorf("Split of nothing: %q, %v", got, e)
	}
	r := rand.New(rand.NewSource(4))
	for range 500 {
		b := noise(r.Int63(), r.Intn(2000))
		p := gear.Params{Min: 1 + r.Intn(40), Bits: r.Intn(8)}
		p.Max = p.Min + r.Intn(100)
		chunks, e := gear.Split(b, p)
		lengths, _ := gear.Cut(b, p)
		if e != api.OK || !slices.EqualFunc(chunks, lengths, func(c []byte, n int) bool { return len(c) == n }) {
			t.Errorf("Split by %v: %d chunks, %v", p, len(chunks), e)
		}
		if !bytes.Equal(gear.Join(chunks...), b) || !bytes.Equal(slices.Concat(chunks...), b) {
			t.Errorf("Split by %v, and Join", p)
		}
	}
}

func TestJoin(t *testing.T) {
	for _, c := range []struct {
		chunks []string
		want   string
	}{
		{nil, ""},
		{[]string{""}, ""},
		{[]string{"", "", ""}, ""},
		{[]string{"a"}, "a"},
		{[]string{"ab", "", "c", "ab"}, "abcab"},
		{[]string{"\x00", "\xff\n"}, "\x00\xff\n"},
	} {
		var chunks [][]byte
		for _, s := range c.chunks {
			chunks = append(chunks, []byte(s))
		}
		if got := gear.Join(chunks...); string(got) != c.want {
			t.Errorf("Join of %q: %q", c.chunks, got)
		}
	}
	if got := gear.Join(nil, []byte("x"), nil); string(got) != "x" {
		t.Errorf("Join with nil: %q", got)
	}
}

// P2: nothing is shared and nothing changed, in the spare room neither.

// whole: a slice with its spare room.
func whole(b []byte) []byte { return b[:cap(b)] }

func TestSplitShares(t *testing.T) {
	b := noise(5, 500)
	before := bytes.Clone(b)
	p := gear.Params{Min: 10, Max: 60, Bits: 3}
	chunks, _ := gear.Split(b[:400], p)
	again, _ := gear.Split(b[:400], p)
	if !bytes.Equal(b, before) {
		t.Fatal("Split changed its bytes")
	}
	for i := range chunks {
		for j := range whole(chunks[i]) {
			whole(chunks[i])[j] = 'x'
		}
		if !bytes.Equal(b, before) {
			t.Fatalf("chunk %d shares with the bytes", i)
		}
		if i+1 < len(chunks) && !bytes.Equal(chunks[i+1], again[i+1]) {
			t.Fatalf("chunk %d shares with the next one", i)
		}
	}
	if !bytes.Equal(gear.Join(again...), before[:400]) {
		t.Error("two answers share")
	}
}

func TestCutShares(t *testing.T) {
	b := noise(6, 500)
	before := bytes.Clone(b)
	p := gear.Params{Min: 10, Max: 60, Bits: 3}
	one, _ := gear.Cut(b[:400], p)
	two, _ := gear.Cut(b[:400], p)
	if !bytes.Equal(b, before) {
		t.Error("Cut changed its bytes")
	}
	clear(one[:cap(one)])
	if !slices.Equal(two, cutOf(b[:400], p)) {
		t.Error("two answers share")
	}
}

func TestJoinShares(t *testing.T) {
	b := noise(7, 100)
	before := bytes.Clone(b)
	for _, chunks := range [][][]byte{{b[:50]}, {b[:0]}, {b[:50], b[50:60]}, {nil, b[:50]}, {b[:50], nil}} {
		got := gear.Join(chunks...)
		for i := range whole(got) {
			whole(got)[i] ^= 0xff
		}
		if !bytes.Equal(b, before) {
			t.Fatal("Join shares with its chunks")
		}
	}
	chunks := [][]byte{b[:50], b[50:60], b[60:]}
	gear.Join(chunks[:2]...)
	if &chunks[2][0] != &b[60] || !bytes.Equal(b, before) {
		t.Error("Join changed its chunks")
	}
}

// P1: any numbers.

func TestAnyParams(t *testing.T) {
	r := rand.New(rand.NewSource(8))
	edges := []int{math.MinInt, math.MinInt + 1, -1 << 32, -65, -64, -1, 0, 1, 2, 19, 20, 21, 63, 64, 65, 1 << 20, 1<<20 + 1, 1 << 32, math.MaxInt}
	b := noise(9, 300)
	for range 5000 {
		p := gear.Params{Min: edges[r.Intn(len(edges))], Max: edges[r.Intn(len(edges))], Bits: edges[r.Intn(len(edges))]}
		n := r.Intn(len(b))
		lengths, e := gear.Cut(b[:n], p)
		chunks, e2 := gear.Split(b[:n], p)
		if e != p.Check() || e2 != e {
			t.Errorf("Cut and Split by %v: %v, %v", p, e, e2)
		}
		if e == api.OK && (!slices.Equal(lengths, cutOf(b[:n], p)) || !bytes.Equal(gear.Join(chunks...), b[:n])) {
			t.Errorf("Cut and Split of %d bytes by %v", n, p)
		}
	}
}
