package lines

// table has, for each place in one list and each in another, a cell: how many lines what is left of both from there on has in common.
type table struct {
	wide  int
	cells []int
}

// cell: a place in the first list and one in the second; behind the last line is a place too.
func (t *table) cell(i, j int) *int {
	return &t.cells[i*t.wide+j]
}

// common: the table of two lists.
func common(a, b []int) *table {
	wide := len(b) + 1
	t := &table{wide, make([]int, (len(a)+1)*wide)}
	for i := len(a) - 1; i >= 0; i-- {
		for j := len(b) - 1; j >= 0; j-- {
			if a[i] == b[j] {
				*t.cell(i, j) = *t.cell(i+1, j+1) + 1
			} else {
				*t.cell(i, j) = max(*t.cell(i+1, j), *t.cell(i, j+1))
			}
		}
	}
	return t
}

// walk: the pairs of two lists, from their beginnings on.
func walk(a, b []int) [][2]int {
	t := common(a, b)
	var pairs [][2]int
	i, j := 0, 0
	for i < len(a) && j < len(b) {
		switch {
		case a[i] == b[j]:
			pairs = append(pairs, [2]int{i, j})
			i++
			j++
		case *t.cell(i+1, j) == *t.cell(i, j):
			i++
		default:
			j++
		}
	}
	return pairs
}

// numbers: a number for each line, the same for those that are alike: long lines are held against each other just once.
func numbers(a, b []string) ([]int, []int) {
	known := map[string]int{}
	number := func(list []string) []int {
		var l []int
		for _, line := range list {
			n, ok := known[line]
			if !ok {
				n = len(known)
				known[line] = n
			}
			l = append(l, n)
		}
		return l
	}
	return number(a), number(b)
}
