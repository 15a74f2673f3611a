package glob

import "slices"

// places tells at which of a pattern's pieces the next name may stand. The last place is behind all pieces.
type places []bool

// end: may all pieces have had their names?
func (at places) end() bool {
	return at[len(at)-1]
}

// start: the places ahead of all names.
func (p *Pattern) start() places {
	at := make(places, len(p.pieces)+1)
	at[0] = true
	p.pass(at)
	return at
}

// step: the places behind one more name.
func (p *Pattern) step(at places, name string) {
	at[len(p.pieces)] = false
	// Backward, as otherwise more than one piece might take the name.
	for i, x := range slices.Backward(p.pieces) {
		if !at[i] || x.many {
			continue
		}
		at[i] = false
		if x.means(name) {
			at[i+1] = true
		}
	}
	p.pass(at)
}

// pass: what means any number of names may mean none, so the next name may also stand behind it.
func (p *Pattern) pass(at places) {
	for i, x := range p.pieces {
		if at[i] && x.many {
			at[i+1] = true
		}
	}
}

// means: can the signs, one behind the other, mean all bytes of a name?
func (x piece) means(name string) bool {
	sign, i := 0, 0
	// Where to go back to: behind the last sign for any bytes, which has had all bytes up to there. No earlier one need be tried again: what it would have besides, the last one can have.
	back, upTo := -1, 0
	for i < len(name) {
		switch {
		case sign < len(x.signs) && x.signs[sign].many:
			sign++
			back, upTo = sign, i
		case sign < len(x.signs) && x.signs[sign].set.has(name[i]):
			sign++
			i++
		case back >= 0:
			upTo++
			sign, i = back, upTo
		default:
			return false
		}
	}
	for sign < len(x.signs) && x.signs[sign].many {
		sign++
	}
	return sign == len(x.signs)
}
