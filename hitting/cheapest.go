package hitting

import (
	"math"
	"slices"

	"faultline/api"
	"faultline/family"
	"faultline/sets"
)

// MaxCost is the greatest cost of an event.
const MaxCost = 1 << 20

// Least returns the least hitting set by sets.Compare, or ErrInfeasible if there is none.
func Least(l []int) (int, error) {
	return lightest(l, weights(nil))
}

// Cheapest returns the hitting set that is least by (sum of the costs of its elements, number of elements, mask), and
// this sum: ErrShape if an event of l has no cost, ErrRange for a cost out of range, ErrInfeasible if there is no
// hitting set.
func Cheapest(l, cost []int) (set, total int, err error) {
	support, err := family.Support(l)
	if err != nil {
		return 0, 0, err
	}
	if len(cost) <= sets.Greatest(support) {
		return 0, 0, api.ErrShape
	}
	for _, c := range cost {
		if c < 0 || c > MaxCost {
			return 0, 0, api.ErrRange
		}
	}
	set, err = lightest(l, weights(cost))
	if err != nil {
		return 0, 0, err
	}
	for s := set; s != 0; s &= s - 1 {
		total += cost[sets.Least(s)]
	}
	return set, total, nil
}

// table has a number for each event.
type table [api.MaxVars]int

// weights returns weights whose sums are in the order of (cost, number of elements, mask), with the cost 0 where none
// is given. The mask takes the lowest 24 bits of a sum, the number of elements the next 5, the cost the next 25, so
// that no two sets have the same sum.
func weights(cost []int) table {
	var weight table
	for i := range weight {
		weight[i] = 1<<api.MaxVars + 1<<i
		if i < len(cost) {
			weight[i] += cost[i] << (api.MaxVars + 5)
		}
	}
	return weight
}

// lightest returns the hitting set with the least sum of weights, or ErrInfeasible if there is none.
func lightest(l []int, weight table) (int, error) {
	l, err := family.Minimal(l)
	if err != nil {
		return 0, err
	}
	// The empty set comes first, if it is there.
	if len(l) > 0 && l[0] == 0 {
		return 0, api.ErrInfeasible
	}
	s := search{weight: weight, best: math.MaxInt}
	s.look(l, 0)
	return sets.Cut(s.best), nil
}

// search is a search by branch and bound for the least sum of weights of a hitting set.
type search struct {
	weight table
	best   int
}

// look goes through the hitting sets of the sets that are left, none of which is empty; sum is the weight of the events
// that have been chosen.
func (s *search) look(left []int, sum int) {
	if sum+s.bound(left) >= s.best {
		return
	}
	if len(left) == 0 {
		s.best = sum
		return
	}
	// Each event of the smallest set is chosen in turn, and those before it are not, so that no set is found twice.
	refused := 0
	for _, single := range singles(slices.MinFunc(left, sets.Compare)) {
		if rest, ok := choose(left, single, refused); ok {
			s.look(rest, sum+s.weight[sets.Least(single)])
		}
		refused |= single
	}
}

// choose returns the sets without the event of single, less the events that are refused, and false if nothing is left
// of one of them.
func choose(left []int, single, refused int) ([]int, bool) {
	rest := make([]int, 0, len(left))
	for _, t := range left {
		if t&single != 0 {
			continue
		}
		if t &^= refused; t == 0 {
			return nil, false
		}
		rest = append(rest, t)
	}
	return rest, true
}

// bound returns a number that no sum of weights of a hitting set of these sets is below. Each set in turn is paid for
// by its lightest event, and all its events become lighter by as much: no event pays more than its weight, and a
// hitting set pays at least once for each set.
func (s *search) bound(left []int) int {
	weight, paid, sum := s.weight, 0, 0
	for _, t := range left {
		if t&paid != 0 {
			continue
		}
		least := math.MaxInt
		for u := t; u != 0; u &= u - 1 {
			least = min(least, weight[sets.Least(u)])
		}
		for u := t; u != 0; u &= u - 1 {
			i := sets.Least(u)
			weight[i] -= least
			if weight[i] == 0 {
				paid |= 1 << i
			}
		}
		sum += least
	}
	return sum
}
