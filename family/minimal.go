package family

import (
	"slices"

	"faultline/api"
	"faultline/sets"
)

// Minimal returns the sets of l of which no proper part is in l, sorted.
func Minimal(l []int) ([]int, error) {
	if err := accept(l); err != nil {
		return nil, err
	}
	return minimal(l)
}

// minimal returns the minimal sets of a list of any length, or ErrLarge if they are more than MaxFamily.
func minimal(l []int) ([]int, error) {
	var kept []int
	for _, s := range sorted(l) {
		// All parts of a set come before it: one that is kept is minimal, whatever follows, and so is one too many.
		if covers(kept, s) {
			continue
		}
		if len(kept) == api.MaxFamily {
			return nil, api.ErrLarge
		}
		kept = append(kept, s)
	}
	return kept, nil
}

// Maximal returns the sets of l that are a proper part of no set of l, sorted.
func Maximal(l []int) ([]int, error) {
	if err := accept(l); err != nil {
		return nil, err
	}
	var kept []int
	l = sorted(l)
	slices.Reverse(l)
	for _, s := range l {
		above := func(other int) bool { return sets.Subset(s, other) }
		if !slices.ContainsFunc(kept, above) {
			kept = append(kept, s)
		}
	}
	slices.Reverse(kept)
	return kept, nil
}

// Covers reports whether some set of l is a subset of s, or returns ErrRange if s is not a set.
func Covers(l []int, s int) (bool, error) {
	if err := accept(l); err != nil {
		return false, err
	}
	if !sets.Valid(s) {
		return false, api.ErrRange
	}
	return covers(l, s), nil
}

// covers reports whether some set of a list of any length is a subset of s.
func covers(l []int, s int) bool {
	for _, part := range l {
		if sets.Subset(part, s) {
			return true
		}
	}
	return false
}

// Meets reports whether s has an element in common with every set of l, or returns ErrRange if s is not a set.
func Meets(l []int, s int) (bool, error) {
	if err := accept(l); err != nil {
		return false, err
	}
	if !sets.Valid(s) {
		return false, api.ErrRange
	}
	for _, other := range l {
		if s&other == 0 {
			return false, nil
		}
	}
	return true, nil
}

// Restrict returns the minimal sets of what is left if the sets that meet working are dropped and the elements of
// failed are removed from the others: ErrRange if one of the two is not a set, ErrForm if they meet.
func Restrict(l []int, failed, working int) ([]int, error) {
	if err := accept(l); err != nil {
		return nil, err
	}
	if !sets.Valid(failed) || !sets.Valid(working) {
		return nil, api.ErrRange
	}
	if failed&working != 0 {
		return nil, api.ErrForm
	}
	var left []int
	for _, s := range l {
		if s&working == 0 {
			left = append(left, s&^failed)
		}
	}
	return minimal(left)
}
