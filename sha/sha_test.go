package sha_test

import (
	"bytes"
	"crypto/sha256"
	"encoding/hex"
	"math/rand"
	"slices"
	"strings"
	"testing"

	"towline/api"
	"towline/sha"
)

// noise: so many bytes, the same for the same seed.
func noise(seed int64, n int) []byte {
	b := make([]byte, n)
	rand.New(rand.NewSource(seed)).Read(b)
	return b
}

// P3.1

func TestSumOfKnownTexts(t *testing.T) {
	for _, c := range []struct{ text, want string }{
		{"", "e3b0c44298fc1c149afbf4c8996fb92427ae41e4649b934ca495991b7852b855"},
		{"abc", "ba7816bf8f01cfea414140de5dae2223b00361a396177a9cb410ff61f20015ad"},
		{"abcdbcdecdefdefgefghfghighijhijkijkljklmklmnlmnomnopnopq", "248d6a61d20638b8e5c026930c3e6039a33ce45964ff2167f6ecedd419db06c1"},
		{"abcdefghbcdefghicdefghijdefghijkefghijklfghijklmghijklmnhijklmnoijklmnopjklmnopqklmnopqrlmnopqrsmnopqrstnopqrstu", "cf5b16a778af8380036ce59e7b0492370b249b11e8f07a51afac45037afee9d1"},
		{strings.Repeat("a", 1000000), "cdc76e5c9914fb9281a1c7e284d73e67f1809a48a497200e046d39ccc7112cd0"},
	} {
		if got := sha.Hex(sha.Sum([]byte(c.text))); got != c.want {
			t.Errorf("Sum of %d bytes: %s, not %s", len(c.text), got, c.want)
		}
	}
}

func TestSumOfAllLengths(t *testing.T) {
	b := noise(1, 1<<16)
	for n := range 400 {
		if sha.Sum(b[:n]) != sha256.Sum256(b[:n]) {
			t.Errorf("Sum of %d bytes", n)
		}
	}
	for _, n := range []int{4095, 4096, 4097, 1<<16 - 9, 1<<16 - 8, 1 << 16} {
		if sha.Sum(b[:n]) != sha256.Sum256(b[:n]) {
			t.Errorf("Sum of %d bytes", n)
		}
	}
}

func TestSumOfParts(t *testing.T) {
	empty := sha256.Sum256(nil)
	if sha.Sum() != empty || sha.Sum(nil) != empty || sha.Sum(nil, []byte{}, nil) != empty {
		t.Error("Sum of no bytes")
	}
	// One cut at each place, around the ends of blocks too.
	b := noise(2, 200)
	want := api.ID(sha256.Sum256(b))
	for i := range len(b) + 1 {
		if sha.Sum(b[:i], b[i:]) != want || sha.Sum(b[:i], nil, b[i:], nil) != want {
			t.Errorf("Sum of parts of %d and %d bytes", i, len(b)-i)
		}
	}
	if sha.Sum(b[1:], b[:1]) == want {
		t.Error("the order of the parts makes no difference")
	}
}

func TestSumOfManyParts(t *testing.T) {
	r := rand.New(rand.NewSource(3))
	for range 300 {
		b := noise(r.Int63(), r.Intn(1000))
		want := api.ID(sha256.Sum256(b))
		var parts [][]byte
		for rest := b; len(rest) > 0; {
			n := r.Intn(min(len(rest), 90) + 1)
			parts = append(parts, rest[:n])
			rest = rest[n:]
		}
		if sha.Sum(parts...) != want {
			t.Errorf("Sum of %d bytes in %d parts", len(b), len(parts))
		}
	}
}

// The size of so many bytes, told in bits, doesn't go into 32 bits.
func TestSumOfVeryManyBytes(t *testing.T) {
	if testing.Short() {
		t.Skip("takes seconds")
	}
	b := noise(4, 1<<20)
	parts := slices.Repeat([][]byte{b}, 1<<9)
	h := sha256.New()
	for _, p := range parts {
		h.Write(p)
	}
	if got := sha.Sum(parts...); !bytes.Equal(got[:], h.Sum(nil)) {
		t.Errorf("Sum of 2^29 bytes: %x", got)
	}
}

// P3.2

func TestHex(t *testing.T) {
	var id api.ID
	if got := sha.Hex(id); got != strings.Repeat("0", 64) {
		t.Errorf("Hex of noughts: %q", got)
	}
	// All bytes, each in some place.
	for i := range 256 {
		for j := range id {
			id[j] = byte(i + 37*j)
		}
		got := sha.Hex(id)
		if got != hex.EncodeToString(id[:]) {
			t.Errorf("Hex of %x: %q", id[:], got)
		}
		if back, e := sha.Parse(got); back != id || e != api.OK {
			t.Errorf("Parse of %q: %x, %v", got, back, e)
		}
	}
}

func notParsed(t *testing.T, s string) {
	t.Helper()
	if id, e := sha.Parse(s); e != api.ErrHex || id != (api.ID{}) {
		t.Errorf("Parse of %q: %x, %v", s, id, e)
	}
}

func TestParseOfWrongLengths(t *testing.T) {
	long := strings.Repeat("3f", 70)
	for n := range len(long) + 1 {
		if n != 64 {
			notParsed(t, long[:n])
		}
	}
	good := long[:64]
	for _, s := range []string{good + " ", " " + good, "0x" + good, good + "\n", good[:62] + "0x", good + "\x00", " " + good[1:], good[:63] + "\n"} {
		notParsed(t, s)
	}
}

func TestParseOfOtherBytes(t *testing.T) {
	good := sha.Hex(sha.Sum([]byte("good")))
	for i := range len(good) {
		for c := range 256 {
			s := good[:i] + string([]byte{byte(c)}) + good[i+1:]
			if c >= '0' && c <= '9' || c >= 'a' && c <= 'f' {
				if id, e := sha.Parse(s); e != api.OK || sha.Hex(id) != s {
					t.Errorf("Parse of %q: %x, %v", s, id, e)
				}
				continue
			}
			notParsed(t, s)
		}
	}
	notParsed(t, strings.ToUpper(good))
	notParsed(t, strings.Repeat("é", 32))
}

// P3.3

// shortOf: the same from the words: the first length that will do.
func shortOf(id api.ID, others []api.ID) string {
	all := hex.EncodeToString(id[:])
	for n := 4; ; n++ {
		if !slices.ContainsFunc(others, func(o api.ID) bool {
			return o != id && strings.HasPrefix(hex.EncodeToString(o[:]), all[:n])
		}) {
			return all[:n]
		}
	}
}

// other: an id that differs from that one in just this digit.
func other(id api.ID, digit int) api.ID {
	if digit%2 == 0 {
		id[digit/2] ^= 0x50
	} else {
		id[digit/2] ^= 0x03
	}
	return id
}

func TestShort(t *testing.T) {
	id := sha.Sum([]byte("abc"))
	full := sha.Hex(id)
	if sha.Short(id) != "ba78" || sha.Short(id, id, id) != "ba78" || sha.Short(id, api.ID{}) != "ba78" {
		t.Error("Short without others that are like it")
	}
	for digit := range 64 {
		o := other(id, digit)
		want := full[:max(4, digit+1)]
		for _, others := range [][]api.ID{{o}, {o, id}, {id, o}, {o, o}, {api.ID{}, o}, {o, api.ID{}}, {o, other(id, 0)}, {other(id, digit/2), o}} {
			if got := sha.Short(id, others...); got != want {
				t.Errorf("Short of %s, with others (digit %d): %s", full, digit, got)
			}
		}
		if got := sha.Short(o, id); got != sha.Hex(o)[:max(4, digit+1)] {
			t.Errorf("Short of the other one (digit %d): %s", digit, got)
		}
	}
}

func TestShortAmongMany(t *testing.T) {
	r := rand.New(rand.NewSource(5))
	for range 2000 {
		var id api.ID
		r.Read(id[:])
		var others []api.ID
		for range r.Intn(6) {
			o := id
			for range r.Intn(3) {
				o[r.Intn(1+r.Intn(32))] ^= byte(r.Intn(256))
			}
			others = append(others, o)
		}
		if got, want := sha.Short(id, others...), shortOf(id, others); got != want {
			t.Errorf("Short: %s, not %s", got, want)
		}
	}
}

// P2: nothing is changed, in the spare room neither.

func TestNothingChanged(t *testing.T) {
	b := noise(6, 300)
	before := bytes.Clone(b)
	parts := [][]byte{b[:70:300], b[70:140], b[200:210]}
	whole := slices.Clone(parts)
	first := sha.Sum(parts[:2]...)
	if !bytes.Equal(b, before) || !slices.EqualFunc(parts, whole, func(x, y []byte) bool { return &x[0] == &y[0] && len(x) == len(y) && cap(x) == cap(y) }) {
		t.Error("Sum changed its parts")
	}
	if sha.Sum(parts[:2]...) != first {
		t.Error("Sum has two answers")
	}
	ids := []api.ID{{1}, {2}, {3}}
	if sha.Short(api.ID{1}, ids[:2]...) != "0100" || !slices.Equal(ids, []api.ID{{1}, {2}, {3}}) {
		t.Error("Short changed the others")
	}
}

// P1: any texts of any bytes.

func TestAnyText(t *testing.T) {
	r := rand.New(rand.NewSource(7))
	for range 20000 {
		s := string(noise(r.Int63(), r.Intn(130)))
		if r.Intn(2) == 0 {
			s = hex.EncodeToString([]byte(s))
		}
		id, e := sha.Parse(s)
		switch {
		case e == api.OK && sha.Hex(id) != s:
			t.Errorf("Parse of %q: %x", s, id)
		case e != api.OK && (e != api.ErrHex || id != api.ID{}):
			t.Errorf("Parse of %q: %x, %v", s, id, e)
		}
	}
}
