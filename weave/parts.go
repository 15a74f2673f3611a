package weave

import "slices"

// rest is what is left of the three lists, of which parts are made from their beginnings on.
type rest struct {
	base, ours, theirs []string
}

// part: the part of the next lines, so many of each list.
func (r *rest) part(base, ours, theirs int) Part {
	p := Part{Base: cut(&r.base, base), Ours: cut(&r.ours, ours), Theirs: cut(&r.theirs, theirs)}
	p.Kind = kind(p)
	return p
}

// cut: the first lines of a list, which has the others left.
func cut(list *[]string, n int) []string {
	first := slices.Clone((*list)[:n])
	*list = (*list)[n:]
	return first
}

// kind: what a part's lines say.
func kind(p Part) int {
	ours, theirs := slices.Equal(p.Base, p.Ours), slices.Equal(p.Base, p.Theirs)
	switch {
	case ours && theirs:
		return Same
	case theirs:
		return Ours
	case ours:
		return Theirs
	case slices.Equal(p.Ours, p.Theirs):
		return Both
	}
	return Conflict
}

// put: parts and one more, if it has any line.
func put(parts []Part, p Part) []Part {
	if len(p.Base) == 0 && len(p.Ours) == 0 && len(p.Theirs) == 0 {
		return parts
	}
	if len(parts) == 0 || parts[len(parts)-1].Kind != Same || p.Kind != Same {
		return append(parts, p)
	}
	last := &parts[len(parts)-1]
	last.Base = append(last.Base, p.Base...)
	last.Ours = append(last.Ours, p.Ours...)
	last.Theirs = append(last.Theirs, p.Theirs...)
	return parts
}

// fast: the places of the lines that stand fast: in the base, in ours, in theirs.
func fast(ours, theirs [][2]int) [][3]int {
	var places [][3]int
	for len(ours) > 0 && len(theirs) > 0 {
		o, t := ours[0], theirs[0]
		if o[0] == t[0] {
			places = append(places, [3]int{o[0], o[1], t[1]})
		}
		if o[0] <= t[0] {
			ours = ours[1:]
		}
		if t[0] <= o[0] {
			theirs = theirs[1:]
		}
	}
	return places
}
