package grain_test

import (
	"bytes"
	"math"
	"math/rand"
	"reflect"
	"strings"
	"testing"

	"towline/api"
	"towline/grain"
)

const canonBits = 0x7ff8000000000000

// nested: a value within so many lists.
func nested(v api.Value, lists int) api.Value {
	for range lists {
		v = api.Value{Kind: grain.List, List: []api.Value{v}}
	}
	return v
}

// alike: whether two values have one Kind and are alike in what that uses.
func alike(v, w api.Value) bool {
	if v.Kind != w.Kind {
		return false
	}
	switch v.Kind {
	case grain.Uint:
		return v.Uint == w.Uint
	case grain.Bytes:
		return bytes.Equal(v.Bytes, w.Bytes)
	case grain.Float:
		return math.Float64bits(v.Float) == math.Float64bits(w.Float)
	}
	if len(v.List) != len(w.List) {
		return false
	}
	for i := range v.List {
		if !alike(v.List[i], w.List[i]) {
			return false
		}
	}
	return true
}

// bare: whether all fields that a value's Kind doesn't use are zero, within it too.
func bare(v api.Value) bool {
	if v.Kind != grain.Uint && v.Uint != 0 || v.Kind != grain.Bytes && len(v.Bytes) > 0 || v.Kind != grain.List && len(v.List) > 0 {
		return false
	}
	if v.Kind != grain.Float && math.Float64bits(v.Float) != 0 {
		return false
	}
	for _, inner := range v.List {
		if !bare(inner) {
			return false
		}
	}
	return true
}

func encoded(t *testing.T, v api.Value, want string) {
	t.Helper()
	if b, e := grain.Encode(v); e != api.OK || string(b) != want {
		t.Errorf("Encode of %v: %x, %v, not %x", v, b, e, want)
	}
}

func notEncoded(t *testing.T, what string, v api.Value, want api.Errno) {
	t.Helper()
	if b, e := grain.Encode(v); e != want || len(b) != 0 {
		t.Errorf("Encode of %s: %d bytes, %v, not %v", what, len(b), e, want)
	}
}

func decoded(t *testing.T, s string, want api.Value) {
	t.Helper()
	if v, e := grain.Decode([]byte(s)); e != api.OK || !alike(v, want) || !bare(v) {
		t.Errorf("Decode of %x: %v, %v, not %v", s, v, e, want)
	}
}

func notDecoded(t *testing.T, what, s string, want api.Errno) {
	t.Helper()
	if v, e := grain.Decode([]byte(s)); e != want || !reflect.DeepEqual(v, api.Value{}) {
		t.Errorf("Decode of %.100q: Kind %d, %v, not %v", what, v.Kind, e, want)
	}
}

// P2.1

func heads() map[uint64]string {
	return map[uint64]string{
		0: "\x00", 1: "\x04", 31: "\x7c", 32: "\x80\x01", 40: "\xa0\x01", 63: "\xfc\x01",
		32*127 + 31: "\xfc\x7f", 32 * 128: "\x80\x80\x01", 32*128*128 - 1: "\xfc\xff\x7f", 32 * 128 * 128: "\x80\x80\x80\x01",
		1<<61 - 1: "\xfc\xff\xff\xff\xff\xff\xff\xff\x7f", 1 << 61: "\x80\x80\x80\x80\x80\x80\x80\x80\x80\x01",
		1 << 63: "\x80\x80\x80\x80\x80\x80\x80\x80\x80\x04", math.MaxUint64: "\xfc\xff\xff\xff\xff\xff\xff\xff\xff\x07",
	}
}

func TestHeadsOfNumbers(t *testing.T) {
	for n, head := range heads() {
		encoded(t, grain.Num(n), head)
		decoded(t, head, grain.Num(n))
	}
}

func TestHeadsOfLengths(t *testing.T) {
	for n, head := range heads() {
		if n > 1<<19 {
			continue
		}
		first := head[0]
		some := strings.Repeat("z", int(n))
		text := string([]byte{first + grain.Bytes}) + head[1:] + some
		encoded(t, grain.Text(some), text)
		decoded(t, text, grain.Text(some))
		list := api.Value{Kind: grain.List, List: make([]api.Value, n)}
		row := string([]byte{first + grain.List}) + head[1:] + strings.Repeat("\x00", int(n))
		encoded(t, list, row)
		decoded(t, row, list)
	}
}

// P2.2

func TestMakers(t *testing.T) {
	inner := []api.Value{grain.Num(7), grain.Text("a"), grain.Row(grain.Real(2))}
	for _, c := range []struct {
		got, want api.Value
	}{
		{grain.Num(0), api.Value{Kind: 0}},
		{grain.Num(math.MaxUint64), api.Value{Kind: 0, Uint: math.MaxUint64}},
		{grain.Text(""), api.Value{Kind: 1}},
		{grain.Text("a\x00\xff"), api.Value{Kind: 1, Bytes: []byte("a\x00\xff")}},
		{grain.Real(-2.5), api.Value{Kind: 2, Float: -2.5}},
		{grain.Real(math.Copysign(0, -1)), api.Value{Kind: 2, Float: math.Copysign(0, -1)}},
		{grain.Real(math.Float64frombits(0xfff0000000000001)), api.Value{Kind: 2, Float: math.Float64frombits(canonBits)}},
		{grain.Row(), api.Value{Kind: 3}},
		{grain.Row(inner...), api.Value{Kind: 3, List: inner}},
	} {
		if !alike(c.got, c.want) || !bare(c.got) {
			t.Errorf("%v, not %v", c.got, c.want)
		}
	}
}

func TestRowKeepsValuesAsTheyAre(t *testing.T) {
	full := api.Value{Kind: 9, Uint: 1, Bytes: []byte("b"), Float: 2, List: []api.Value{grain.Num(3)}}
	if got := grain.Row(full).List; len(got) != 1 || !reflect.DeepEqual(got[0], full) {
		t.Errorf("Row of %v: %v", full, got)
	}
}

// P2.3

// samples: values and their bytes.
func samples() map[string]api.Value {
	return map[string]api.Value{
		"\x0f\xa0\x01\x05\x61\x02\x3f\xe0\x00\x00\x00\x00\x00\x00": grain.Row(grain.Num(40), grain.Text("a"), grain.Real(0.5)),
		"\x01":                                 grain.Text(""),
		"\x0dabc":                              grain.Text("abc"),
		"\x03":                                 grain.Row(),
		"\x07\x07\x07\x03":                     nested(grain.Row(), 3),
		"\x0f\x03\x04\x03":                     grain.Row(grain.Row(), grain.Num(1), grain.Row()),
		"\x02\x00\x00\x00\x00\x00\x00\x00\x00": grain.Real(0),
		"\x02\x80\x00\x00\x00\x00\x00\x00\x00": grain.Real(math.Copysign(0, -1)),
		"\x02\x7f\xf0\x00\x00\x00\x00\x00\x00": grain.Real(math.Inf(1)),
		"\x02\xff\xf0\x00\x00\x00\x00\x00\x00": grain.Real(math.Inf(-1)),
		"\x02\x7f\xf8\x00\x00\x00\x00\x00\x00": grain.Real(math.NaN()),
		"\x02\x01\x23\x45\x67\x89\xab\xcd\xef": grain.Real(math.Float64frombits(0x0123456789abcdef)),
	}
}

func TestEncode(t *testing.T) {
	for s, v := range samples() {
		encoded(t, v, s)
	}
}

func TestEncodePassesOverOtherFields(t *testing.T) {
	for s, v := range samples() {
		w := api.Value{Kind: v.Kind, Uint: 5, Bytes: []byte("x"), Float: math.NaN(), List: []api.Value{{Kind: 9}}}
		switch v.Kind {
		case grain.Bytes:
			w.Bytes = v.Bytes
		case grain.Float:
			w.Float = v.Float
		case grain.List:
			w.List = v.List
		}
		encoded(t, w, s)
	}
	encoded(t, api.Value{Kind: grain.Uint, Uint: 1, Bytes: []byte("x"), Float: 1, List: []api.Value{{Kind: 9}}}, "\x04")
}

func TestEncodeHasOneFormOfNoNumber(t *testing.T) {
	for _, bits := range []uint64{0x7ff8000000000001, 0x7ff0000000000001, 0xfff8000000000000, math.MaxUint64} {
		encoded(t, api.Value{Kind: grain.Float, Float: math.Float64frombits(bits)}, "\x02\x7f\xf8\x00\x00\x00\x00\x00\x00")
	}
}

func TestEncodeRefusesOtherKinds(t *testing.T) {
	for _, kind := range []int{-1, 4, 5, 256, 260, math.MinInt, math.MaxInt} {
		notEncoded(t, "another Kind", api.Value{Kind: kind}, api.ErrTag)
		notEncoded(t, "another Kind in a list", grain.Row(grain.Num(1), api.Value{Kind: kind}), api.ErrTag)
	}
}

func TestEncodeRefusesWhatIsTooDeep(t *testing.T) {
	if grain.MaxDeep != 16 {
		t.Errorf("MaxDeep is %d", grain.MaxDeep)
	}
	encoded(t, nested(grain.Num(1), 15), strings.Repeat("\x07", 15)+"\x04")
	encoded(t, nested(grain.Row(), 15), strings.Repeat("\x07", 15)+"\x03")
	notEncoded(t, "a value within 16 lists", nested(grain.Num(1), 16), api.ErrDeep)
	notEncoded(t, "a value within 60000 lists", nested(grain.Num(1), 60000), api.ErrDeep)
	notEncoded(t, "another Kind within 16 lists", nested(api.Value{Kind: 4}, 16), api.ErrDeep)
	notEncoded(t, "another Kind within 15 lists", nested(api.Value{Kind: 4}, 15), api.ErrTag)
}

func TestEncodeRefusesWhatIsTooLong(t *testing.T) {
	if grain.MaxSize != 1<<20 {
		t.Errorf("MaxSize is %d", grain.MaxSize)
	}
	// The head of bytes as many as these has four bytes.
	just := grain.Text(strings.Repeat("z", 1<<20-4))
	if b, e := grain.Encode(just); e != api.OK || len(b) != 1<<20 {
		t.Errorf("Encode of 2^20 bytes: %d, %v", len(b), e)
	}
	notEncoded(t, "2^20 + 1 bytes", grain.Text(strings.Repeat("z", 1<<20-3)), api.ErrLong)
	notEncoded(t, "many more bytes", grain.Text(strings.Repeat("z", 1<<23)), api.ErrLong)
	notEncoded(t, "2^20 + 1 bytes with the list around", grain.Row(just), api.ErrLong)
	numbers := api.Value{Kind: grain.List, List: make([]api.Value, 1<<20-4)}
	if b, e := grain.Encode(numbers); e != api.OK || len(b) != 1<<20 {
		t.Errorf("Encode of a list of 2^20 bytes: %d, %v", len(b), e)
	}
	numbers.List = append(numbers.List, grain.Num(0))
	notEncoded(t, "a list of 2^20 + 1 bytes", numbers, api.ErrLong)
}

func TestEncodeAnswersTheFirstError(t *testing.T) {
	long := grain.Text(strings.Repeat("z", 1<<20))
	half := grain.Text(strings.Repeat("z", 1<<19))
	bad, deep := api.Value{Kind: 4}, nested(grain.Num(1), 15)
	notEncoded(t, "too long, then another Kind", grain.Row(long, bad), api.ErrLong)
	notEncoded(t, "another Kind, then too long", grain.Row(bad, long), api.ErrTag)
	notEncoded(t, "too long, then too deep", grain.Row(long, deep), api.ErrLong)
	notEncoded(t, "too deep, then too long", grain.Row(deep, long), api.ErrDeep)
	notEncoded(t, "too deep, then another Kind", grain.Row(deep, bad), api.ErrDeep)
	notEncoded(t, "another Kind, then too deep", grain.Row(bad, deep), api.ErrTag)
	notEncoded(t, "too long in two values, then another Kind", grain.Row(half, half, bad), api.ErrLong)
	notEncoded(t, "not yet too long, then another Kind", grain.Row(half, bad, half), api.ErrTag)
}

// P2.4

func TestDecode(t *testing.T) {
	for s, v := range samples() {
		decoded(t, s, v)
	}
	decoded(t, strings.Repeat("\x07", 15)+"\x04", nested(grain.Num(1), 15))
	decoded(t, strings.Repeat("\x07", 15)+"\x03", nested(grain.Row(), 15))
}

func TestDecodeRefuses(t *testing.T) {
	zero := strings.Repeat("\x00", 8)
	for s, want := range map[string]api.Errno{
		"":                                     api.ErrShort,
		"\x80":                                 api.ErrShort,
		"\x80\x80\x80\x80\x80\x80\x80\x80\x80": api.ErrShort,
		"\x80\x00":                             api.ErrWide,
		"\x83\x00":                             api.ErrWide,
		"\xff\x80\x00":                         api.ErrWide,
		"\x80\x00\x00":                         api.ErrWide,
		strings.Repeat("\x80", 9) + "\x08":     api.ErrWide,
		strings.Repeat("\xff", 9) + "\x7f":     api.ErrWide,
		strings.Repeat("\xff", 10):             api.ErrWide,
		strings.Repeat("\x80", 10):             api.ErrWide,
		strings.Repeat("\x80", 9) + "\x00":     api.ErrWide,
		strings.Repeat("\x81", 9) + "\x08":     api.ErrWide,
		strings.Repeat("\xff", 20):             api.ErrWide,
		"\x05":                                 api.ErrShort,
		"\x09a":                                api.ErrShort,
		"\x81" + strings.Repeat("\x80", 8) + "\x04": api.ErrShort,
		"\xfd" + strings.Repeat("\xff", 8) + "\x07": api.ErrShort,
		"\x02":                                     api.ErrShort,
		"\x02" + zero[1:]:                          api.ErrShort,
		"\x06":                                     api.ErrShort,
		"\x06" + zero[1:]:                          api.ErrShort,
		"\x06" + zero:                              api.ErrTag,
		"\x82\x01" + zero:                          api.ErrTag,
		"\x06" + zero + "\x00":                     api.ErrTag,
		"\x02\x7f\xf8\x00\x00\x00\x00\x00\x01":     api.ErrTag,
		"\x02\x7f\xf0\x00\x00\x00\x00\x00\x01":     api.ErrTag,
		"\x02\xff\xf8\x00\x00\x00\x00\x00\x00":     api.ErrTag,
		"\x02\xff\xff\xff\xff\xff\xff\xff\xff":     api.ErrTag,
		"\x02\x7f\xf8\x00\x00\x00\x00\x00\x01\x00": api.ErrTag,
		"\x00\x00":                                 api.ErrRest,
		"\x03\x03":                                 api.ErrRest,
		"\x05ab":                                   api.ErrRest,
		"\x02" + zero + "\x80":                     api.ErrRest,
		"\x07":                                     api.ErrShort,
		"\x0b\x00":                                 api.ErrShort,
		"\x07\x80\x00":                             api.ErrWide,
		"\xff" + strings.Repeat("\xff", 8) + "\x07":         api.ErrShort,
		"\xff" + strings.Repeat("\xff", 8) + "\x07\x00\x00": api.ErrShort,
		"\x0b\x06" + zero + "\x80\x00":                      api.ErrTag,
		"\x0b\x80\x00\x06" + zero:                           api.ErrWide,
		"\x0b\x09a":                                         api.ErrShort,
		strings.Repeat("\x07", 16):                          api.ErrDeep,
		strings.Repeat("\x07", 16) + "\x00":                 api.ErrDeep,
		strings.Repeat("\x07", 16) + "\x80\x00":             api.ErrDeep,
		strings.Repeat("\x07", 15):                          api.ErrShort,
		strings.Repeat("\x07", 15) + "\x80\x00":             api.ErrWide,
		strings.Repeat("\x07", 1000):                        api.ErrDeep,
		strings.Repeat("\x07", 15) + "\x03\x00":             api.ErrRest,
		"\x0b" + strings.Repeat("\x07", 15) + "\x80\x00":    api.ErrDeep,
	} {
		notDecoded(t, s, s, want)
	}
}

func TestDecodeRefusesWhatIsTooLong(t *testing.T) {
	just, e := grain.Encode(grain.Text(strings.Repeat("z", 1<<20-4)))
	if e != api.OK {
		t.Fatal(e)
	}
	decoded(t, string(just), grain.Text(strings.Repeat("z", 1<<20-4)))
	notDecoded(t, "a value and a byte more than MaxSize", string(just)+"z", api.ErrLong)
	notDecoded(t, "2^20 + 1 bytes of a wrong head", "\x80"+strings.Repeat("\x00", 1<<20), api.ErrLong)
	notDecoded(t, "2^20 bytes of a wrong head", "\x80"+strings.Repeat("\x00", 1<<20-1), api.ErrWide)
	notDecoded(t, "2^20 bytes", strings.Repeat("\x00", 1<<20), api.ErrRest)
}

// TestDecodeOfAllShortBytes: whatever is decoded is encoded to the same bytes again.
func TestDecodeOfAllShortBytes(t *testing.T) {
	for n := range 1 << 17 {
		b := []byte{byte(n), byte(n >> 8)}[:1+n>>16]
		v, e := grain.Decode(b)
		again, f := grain.Encode(v)
		if e == api.OK && (f != api.OK || !bytes.Equal(again, b)) || e != api.OK && !reflect.DeepEqual(v, api.Value{}) {
			t.Fatalf("Decode of %x: %v, %v", b, v, e)
		}
	}
}

func anyValue(r *rand.Rand, deep int) api.Value {
	switch kind := r.Intn(4); {
	case kind == grain.Uint:
		return grain.Num(r.Uint64() >> r.Intn(64))
	case kind == grain.Bytes:
		b := make([]byte, r.Intn(50))
		r.Read(b)
		return grain.Text(string(b))
	case kind == grain.Float || deep == 0:
		return grain.Real(math.Float64frombits(r.Uint64()))
	}
	var list []api.Value
	for range r.Intn(5) {
		list = append(list, anyValue(r, deep-1))
	}
	return grain.Row(list...)
}

func TestDecodeOfWhatIsEncoded(t *testing.T) {
	r := rand.New(rand.NewSource(24))
	for range 3000 {
		v := anyValue(r, 5)
		b, e := grain.Encode(v)
		if e != api.OK {
			t.Fatalf("Encode of %v: %v", v, e)
		}
		if w, e := grain.Decode(b); e != api.OK || !alike(v, w) || !bare(w) {
			t.Fatalf("Decode of %x: %v, %v", b, w, e)
		}
		for i := range b {
			if _, e := grain.Decode(b[:i]); e != api.ErrShort {
				t.Fatalf("Decode of the first %d bytes of %x: %v", i, b, e)
			}
		}
		if _, e := grain.Decode(append(b, byte(r.Intn(256)))); e != api.ErrRest {
			t.Fatalf("Decode of %x and a byte: %v", b, e)
		}
	}
}

// P1

func TestAllBytesEnd(t *testing.T) {
	r := rand.New(rand.NewSource(25))
	for range 20000 {
		b, _ := grain.Encode(anyValue(r, 4))
		for range r.Intn(4) {
			b[r.Intn(len(b))] = byte(r.Intn(256))
		}
		v, e := grain.Decode(b)
		again, f := grain.Encode(v)
		if e == api.OK && (f != api.OK || !bytes.Equal(again, b)) || e != api.OK && !reflect.DeepEqual(v, api.Value{}) {
			t.Fatalf("Decode of %x: %v, %v", b, v, e)
		}
	}
}

func TestSharedListsEnd(t *testing.T) {
	v := grain.Num(1)
	for range 14 {
		v = api.Value{Kind: grain.List, List: []api.Value{v, v, v, v, v, v, v, v}}
	}
	notEncoded(t, "8^14 values", v, api.ErrLong)
}

func TestMakersTakeAnything(t *testing.T) {
	deep := nested(grain.Num(1), 60000)
	row := grain.Row(deep, deep)
	notEncoded(t, "a row of deep values", row, api.ErrDeep)
	notEncoded(t, "a row of another Kind", grain.Row(api.Value{Kind: -7}), api.ErrTag)
}

// P2

// fill writes over all bytes and values, the spare room too.
func fill(v api.Value) {
	all := v.Bytes[:cap(v.Bytes)]
	for i := range all {
		all[i] = '#'
	}
	list := v.List[:cap(v.List)]
	for i := range list {
		fill(list[i])
		list[i] = api.Value{Kind: 99}
	}
}

// anything: a list in the midst of a longer one, with bytes that have spare room too.
func anything() (all []api.Value, some api.Value) {
	room := []byte("abcdef")
	all = []api.Value{grain.Num(1), {Kind: grain.Bytes, Bytes: room[:3]}, {Kind: grain.List, List: []api.Value{grain.Text("in")}}, grain.Num(4)}
	return all, api.Value{Kind: grain.List, List: all[:3]}
}

const anythingBytes = "\x0f\x04\x0dabc\x07\x09in"

func TestRowSharesNothing(t *testing.T) {
	all, some := anything()
	row := grain.Row(some.List...)
	other := grain.Row(some.List...)
	fill(row)
	encoded(t, some, anythingBytes)
	encoded(t, other, anythingBytes)
	if !alike(all[3], grain.Num(4)) || string(all[1].Bytes[:6]) != "abcdef" {
		t.Error("Row's answer shares spare room with its list")
	}
	row = grain.Row(some.List...)
	fill(some)
	encoded(t, row, anythingBytes)
}

func TestEncodeSharesNothing(t *testing.T) {
	all, some := anything()
	b, _ := grain.Encode(some)
	other, _ := grain.Encode(some)
	for i := range b[:cap(b)] {
		b[:cap(b)][i] = '#'
	}
	if string(other) != anythingBytes || string(all[1].Bytes[:6]) != "abcdef" || !alike(all[3], grain.Num(4)) {
		t.Error("Encode's answer shares memory")
	}
	encoded(t, some, anythingBytes)
	bad := grain.Row(some, api.Value{Kind: 4})
	notEncoded(t, "another Kind", bad, api.ErrTag)
	encoded(t, bad.List[0], anythingBytes)
}

func TestDecodeSharesNothing(t *testing.T) {
	room := []byte(anythingBytes + "spare")
	b := room[:len(anythingBytes)]
	want := grain.Row(grain.Num(1), grain.Text("abc"), grain.Row(grain.Text("in")))
	v, _ := grain.Decode(b)
	w, _ := grain.Decode(b)
	fill(v)
	if string(room) != anythingBytes+"spare" || !alike(w, want) {
		t.Error("Decode's answer shares memory")
	}
	for i := range room {
		room[i] = '#'
	}
	if !alike(w, want) {
		t.Error("Decode kept what was handed in")
	}
}

func TestDecodedListsShareNothing(t *testing.T) {
	v, e := grain.Decode([]byte("\x0f\x05a\x05b\x0b\x04\x07\x08"))
	if e != api.OK {
		t.Fatal(e)
	}
	fill(v.List[0])
	fill(v.List[2])
	if string(v.List[1].Bytes) != "b" || !alike(v.List[0], api.Value{Kind: grain.Bytes, Bytes: []byte("#")}) {
		t.Errorf("values of one answer share memory: %v", v)
	}
}

func TestTextSharesNothing(t *testing.T) {
	s := "abc"
	v, w := grain.Text(s), grain.Text(s)
	fill(v)
	if s != "abc" || string(w.Bytes) != "abc" {
		t.Error("Text's answers share memory")
	}
}
