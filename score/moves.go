package score

import (
	"cmp"

	"towline/api"
	"towline/path"
	"towline/stamp"
)

// candidates: each text that is gone with each new one, if they are at least so alike.
func candidates(gone, come []Text, least float64) ([]Move, api.Errno) {
	var all []Move
	for _, g := range gone {
		for _, c := range come {
			score, e := Alike(g.Lines, c.Lines)
			if e != api.OK {
				return nil, e
			}
			if stamp.Compare(score, least) >= 0 {
				all = append(all, Move{g.Path, c.Path, score})
			}
		}
	}
	return all, api.OK
}

// order: below 0, if one move is chosen ahead of another one: the most alike first, and then by their paths.
func order(m, n Move) int {
	return cmp.Or(stamp.Compare(n.Score, m.Score), path.Compare(m.From, n.From), path.Compare(m.To, n.To))
}

// chosen: of sorted moves those of which none ahead has a path.
func chosen(sorted []Move) []Move {
	// A path may be among those that are gone and among the new ones, so each side has a map of its own.
	taken := [2]map[string]struct{}{{}, {}}
	var out []Move
	for _, m := range sorted {
		_, gone := taken[0][m.From]
		_, come := taken[1][m.To]
		if gone || come {
			continue
		}
		taken[0][m.From], taken[1][m.To] = struct{}{}, struct{}{}
		out = append(out, m)
	}
	return out
}
