package glob

import (
	"strings"

	"towline/api"
)

// piece is what stands between two / of a pattern: any number of names, or one that its signs mean.
type piece struct {
	many  bool
	signs []sign
}

// sign is any number of bytes, or one of a set.
type sign struct {
	many bool
	set  set
}

// set is some of all bytes: those whose bits are 1.
type set [256 / 64]uint64

// add: all bytes from x to y.
func (s *set) add(x, y byte) {
	for c := int(x); c <= int(y); c++ {
		s[c/64] |= 1 << (c % 64)
	}
}

// has: is a byte one of these?
func (s set) has(c byte) bool {
	return s[c/64]>>(c%64)&1 == 1
}

// others: all bytes but these.
func (s set) others() set {
	for i := range s {
		s[i] = ^s[i]
	}
	return s
}

// one: the sign that means a byte alone.
func one(c byte) sign {
	var s sign
	s.set.add(c, c)
	return s
}

// read: the pieces of a pattern.
func read(s string) []piece {
	var pieces []piece
	for _, text := range strings.Split(s, "/") {
		if text == "" {
			panic(api.ErrPattern)
		}
		if text == "**" {
			pieces = append(pieces, piece{many: true})
			continue
		}
		r := reader{text}
		pieces = append(pieces, piece{signs: r.signs()})
	}
	return pieces
}

// reader is what is left to read of a piece.
type reader struct {
	rest string
}

// next: the next byte, as it stands there.
func (r *reader) next() byte {
	if r.rest == "" {
		panic(api.ErrPattern)
	}
	c := r.rest[0]
	r.rest = r.rest[1:]
	return c
}

// take: is that text the next one? If so, it is read.
func (r *reader) take(text string) bool {
	rest, begins := strings.CutPrefix(r.rest, text)
	r.rest = rest
	return begins
}

// signs: all signs that are left.
func (r *reader) signs() []sign {
	var signs []sign
	for r.rest != "" {
		signs = append(signs, r.sign())
	}
	return signs
}

func (r *reader) sign() sign {
	switch c := r.next(); c {
	case '*':
		return sign{many: true}
	case '?':
		return sign{set: set{}.others()}
	case '[':
		return sign{set: r.set()}
	case '\\':
		return one(r.next())
	default:
		return one(c)
	}
}

// set: what stands behind a [, and its ].
func (r *reader) set() set {
	var s set
	others := r.take("!")
	// The first byte is read without a look, as it may be ].
	s.add(r.span())
	for !r.take("]") {
		s.add(r.span())
	}
	if others {
		return s.others()
	}
	return s
}

// span: the first and the last of a set's next bytes.
func (r *reader) span() (byte, byte) {
	x := r.member()
	if strings.HasPrefix(r.rest, "-]") || !r.take("-") {
		return x, x
	}
	y := r.member()
	if y < x {
		panic(api.ErrPattern)
	}
	return x, y
}

// member: a set's next byte, written as itself or behind a \.
func (r *reader) member() byte {
	c := r.next()
	if c == '\\' {
		return r.next()
	}
	return c
}
