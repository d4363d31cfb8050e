package cube

import (
	"cmp"
	"slices"

	"faultline/api"
)

// Minus returns disjoint cubes that have together the states in a and not in b.
func Minus(a, b api.Cube) ([]api.Cube, error) {
	if err := check(a, b); err != nil {
		return nil, err
	}
	return minus(nil, a, b), nil
}

// minus appends what Minus returns to a list: a alone if the cubes have no common state, otherwise a cube for each
// literal of b that a does not have, with its opposite.
func minus(list []api.Cube, a, b api.Cube) []api.Cube {
	if clash(a, b) != 0 {
		return append(list, a)
	}
	for left := events(missing(a, b)); left != 0; left &= left - 1 {
		yes, no := left&-left&b.Yes, left&-left&b.No
		list = append(list, api.Cube{Yes: a.Yes | no, No: a.No | yes})
		a = api.Cube{Yes: a.Yes | yes, No: a.No | no}
	}
	return list
}

// Disjoint reports whether no two cubes of the list have a common state.
func Disjoint(l []api.Cube) (bool, error) {
	if err := checkList(l); err != nil {
		return false, err
	}
	for i, a := range l {
		for _, b := range l[:i] {
			if clash(a, b) == 0 {
				return false, nil
			}
		}
	}
	return true, nil
}

// Cover returns disjoint cubes that have together the states of the cubes of l, or ErrLarge if there are too many, also
// if they are too many only on the way.
func Cover(l []api.Cube) ([]api.Cube, error) {
	if err := checkList(l); err != nil {
		return nil, err
	}
	var cover []api.Cube
	for i, c := range l {
		pieces, ok := outside(c, l[:i])
		if !ok || len(cover)+len(pieces) > api.MaxCubes {
			return nil, api.ErrLarge
		}
		cover = append(cover, pieces...)
	}
	return cover, nil
}

// outside returns disjoint cubes that have together the states in c and in none of the other cubes, which are taken
// away one after the other, and false if there are too many of them after one of these steps.
func outside(c api.Cube, others []api.Cube) ([]api.Cube, bool) {
	pieces, next := []api.Cube{c}, []api.Cube{}
	for _, other := range others {
		next = next[:0]
		for _, piece := range pieces {
			next = minus(next, piece, other)
		}
		if len(next) > api.MaxCubes {
			return nil, false
		}
		pieces, next = next, pieces
	}
	return pieces, true
}

// Covers reports whether every state in c is in a cube of l.
func Covers(l []api.Cube, c api.Cube) (bool, error) {
	if err := checkList(l); err != nil {
		return false, err
	}
	if err := check(c); err != nil {
		return false, err
	}
	return gaps(l, c, func(api.Cube) bool { return false }), nil
}

// Count returns the number of states of the first events that are in a cube of l: ErrRange if there are not so many
// events, ErrIndex if a cube has another one.
func Count(l []api.Cube, vars int) (int, error) {
	if err := checkList(l); err != nil {
		return 0, err
	}
	if vars < 0 || vars > api.MaxVars {
		return 0, api.ErrRange
	}
	for _, c := range l {
		if events(c)>>vars != 0 {
			return 0, api.ErrIndex
		}
	}
	count := 1 << vars
	gaps(l, api.Cube{}, func(gap api.Cube) bool {
		count -= 1 << (vars - literals(gap))
		return true
	})
	return count, nil
}

// gaps passes to found disjoint cubes that have together the states in c and in no cube of l, until it returns false.
// It reports whether it never did.
func gaps(l []api.Cube, c api.Cube, found func(gap api.Cube) bool) bool {
	near := make([]api.Cube, 0, len(l))
	for _, other := range l {
		if clash(c, other) == 0 {
			near = append(near, other)
		}
	}
	if len(near) == 0 {
		return found(c)
	}
	// The cube of which c lacks the fewest literals leaves the fewest pieces: none if c implies it.
	nearest := slices.MinFunc(near, func(a, b api.Cube) int {
		return cmp.Compare(literals(missing(c, a)), literals(missing(c, b)))
	})
	for _, piece := range minus(nil, c, nearest) {
		if !gaps(near, piece, found) {
			return false
		}
	}
	return true
}

// Absorb returns the cubes of l that do not imply another cube of l, sorted, each once.
func Absorb(l []api.Cube) ([]api.Cube, error) {
	if err := checkList(l); err != nil {
		return nil, err
	}
	var kept []api.Cube
	// A cube that is implied has no more literals than those that imply it, so that it comes before them.
next:
	for _, c := range slices.SortedFunc(slices.Values(l), compare) {
		for _, other := range kept {
			if implies(c, other) {
				continue next
			}
		}
		kept = append(kept, c)
	}
	return kept, nil
}
