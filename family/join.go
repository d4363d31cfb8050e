package family

import "slices"

// Plus returns the minimal sets of both lists together, or ErrLarge if they are too many for a list.
func Plus(a, b []int) ([]int, error) {
	if err := accept(a, b); err != nil {
		return nil, err
	}
	return minimal(slices.Concat(a, b))
}

// Product returns the minimal sets among the unions of a set of a and a set of b, or ErrLarge if they are too many for
// a list.
func Product(a, b []int) ([]int, error) {
	a, b, err := minimals(a, b)
	if err != nil {
		return nil, err
	}
	return minimal(unions(a, b))
}

// unions returns unions of a set of a and a set of b, among which are all that are minimal. A set that contains one of
// the other list is a union itself, and its other unions contain it: only the rest is joined in pairs.
func unions(a, b []int) []int {
	aboveA, restA := divide(a, b)
	aboveB, restB := divide(b, a)
	list := slices.Concat(aboveA, aboveB)
	for _, s := range restA {
		for _, t := range restB {
			list = append(list, s|t)
		}
	}
	return list
}

// divide returns the sets of l that contain a set of the other list, and those that do not.
func divide(l, other []int) (above, rest []int) {
	for _, s := range l {
		if covers(other, s) {
			above = append(above, s)
		} else {
			rest = append(rest, s)
		}
	}
	return above, rest
}

// Same reports whether the minimal sets of both lists are the same.
func Same(a, b []int) (bool, error) {
	a, b, err := minimals(a, b)
	if err != nil {
		return false, err
	}
	return slices.Equal(a, b), nil
}

// minimals returns the minimal sets of each of two lists, or their list errors.
func minimals(a, b []int) ([]int, []int, error) {
	if err := accept(a, b); err != nil {
		return nil, nil, err
	}
	x, err := minimal(a)
	if err != nil {
		return nil, nil, err
	}
	y, err := minimal(b)
	if err != nil {
		return nil, nil, err
	}
	return x, y, nil
}
