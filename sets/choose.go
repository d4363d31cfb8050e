package sets

import (
	"slices"

	"faultline/api"
)

// maxBinomial is the greatest number of elements of which Binomial counts the sets.
const maxBinomial = 60

// Next returns the least set that is a greater int and has as many elements: ErrRange if s is not a set, ErrEnd if
// there is none.
func Next(s int) (int, error) {
	if !Valid(s) {
		return 0, api.ErrRange
	}
	next := successor(s)
	if next == s || !Valid(next) {
		return 0, api.ErrEnd
	}
	return next, nil
}

// successor returns the least greater int with as many bits as the set s, or 0 if s is empty. The greatest of the
// lowest bits that stand side by side moves up by one place, and those below it move down to the lowest places.
func successor(s int) int {
	moved := s + s&-s
	side := s &^ moved
	return moved | side>>(Least(s)+1)
}

// Choose returns all sets of k of the events 0 to n-1, ascending: ErrRange if there are no such events, ErrLarge if
// there are too many sets.
func Choose(n, k int) ([]int, error) {
	if n < 0 || n > api.MaxVars || k < 0 || k > n {
		return nil, api.ErrRange
	}
	count := binomial(n, k)
	if count > api.MaxFamily {
		return nil, api.ErrLarge
	}
	list := make([]int, 0, count)
	s := 1<<k - 1
	for range count {
		list = append(list, s)
		s = successor(s)
	}
	return list, nil
}

// Parts returns all subsets of s, sorted by Compare: ErrRange if s is not a set, ErrLarge if it has too many elements.
func Parts(s int) ([]int, error) {
	if !Valid(s) {
		return nil, api.ErrRange
	}
	if Count(s) > MaxParts {
		return nil, api.ErrLarge
	}
	list := make([]int, 0, 1<<Count(s))
	// Going down by one and dropping what is not in s leads from each subset to the greatest one below it.
	for part := s; part > 0; part = (part - 1) & s {
		list = append(list, part)
	}
	list = append(list, 0)
	slices.SortFunc(list, Compare)
	return list, nil
}

// Binomial returns the number of sets of k of n elements, or ErrRange if n is below 0 or too large.
func Binomial(n, k int) (int, error) {
	if n < 0 || n > maxBinomial {
		return 0, api.ErrRange
	}
	if k < 0 || k > n {
		return 0, nil
	}
	return binomial(n, k), nil
}

// binomial returns the number of sets of k of n elements, for 0 <= k <= n <= maxBinomial. All products are below 2^62,
// and all quotients are whole, because each one is the number of the sets of i+1 elements.
func binomial(n, k int) int {
	count := 1
	for i := range k {
		count = count * (n - i) / (i + 1)
	}
	return count
}
