package hitting_test

import (
	"cmp"
	"math"
	"math/rand/v2"
	"slices"
	"testing"

	"faultline/api"
)

// all is the greatest set: that of the events 0 to 23.
const all = 16777215

// size returns the number of events of a set.
func size(s int) int {
	n := 0
	for ; s > 0; s /= 2 {
		n += s % 2
	}
	return n
}

// order compares sets by size, then by mask.
func order(a, b int) int {
	return cmp.Or(cmp.Compare(size(a), size(b)), cmp.Compare(a, b))
}

// hits reports whether s has an event in common with every set of l.
func hits(l []int, s int) bool {
	return !slices.ContainsFunc(l, func(other int) bool { return other&s == 0 })
}

// lowest returns the sets of which no other set of the list is a part, sorted, each once.
func lowest(l []int) []int {
	var list []int
	for _, s := range l {
		above := func(other int) bool { return other != s && other&s == other }
		if !slices.ContainsFunc(l, above) && !slices.Contains(list, s) {
			list = append(list, s)
		}
	}
	slices.SortFunc(list, order)
	return list
}

// subsets returns all sets of the events.
func subsets(events ...int) []int {
	list := []int{0}
	for _, i := range events {
		for _, s := range slices.Clone(list) {
			list = append(list, s|1<<i)
		}
	}
	return list
}

// problem is a list of sets with some events, among which are all that occur in it.
type problem struct {
	l, events []int
}

// hittingSets returns all hitting sets of these events.
func (p problem) hittingSets() []int {
	return slices.DeleteFunc(subsets(p.events...), func(s int) bool { return !hits(p.l, s) })
}

// smallProblems returns each list of sets of three events, with the greater masks first, so that few are sorted.
func smallProblems(events ...int) []problem {
	sets := subsets(events...)
	slices.Reverse(sets)
	lists := [][]int{nil}
	for _, s := range sets {
		for _, l := range slices.Clone(lists) {
			lists = append(lists, append(slices.Clone(l), s))
		}
	}
	var problems []problem
	for _, l := range lists {
		problems = append(problems, problem{l, events})
	}
	return problems
}

// randomProblems returns lists of up to 20 sets of up to 8 events that lie anywhere, with sets that occur several times.
func randomProblems(seed uint64, count int) []problem {
	r := rand.New(rand.NewPCG(7, seed))
	var problems []problem
	for range count {
		p := problem{events: r.Perm(24)[:1+r.IntN(8)]}
		few := 1 + r.IntN(4)
		for range r.IntN(20) {
			s := 0
			for range 1 + r.IntN(few) {
				s |= 1 << p.events[r.IntN(len(p.events))]
			}
			p.l = append(p.l, s)
			if r.IntN(6) == 0 {
				p.l = append(p.l, p.l[r.IntN(len(p.l))])
			}
		}
		problems = append(problems, p)
	}
	return problems
}

// someProblems returns lists of all kinds, with few enough events to look at all their sets.
func someProblems() []problem {
	return slices.Concat(smallProblems(0, 1, 2), smallProblems(23, 3, 17), randomProblems(1, 300))
}

// wideLists returns lists of sets of any of the 24 events.
func wideLists(seed uint64, count int) [][]int {
	r := rand.New(rand.NewPCG(7, seed))
	var lists [][]int
	for range count {
		var l []int
		most := 2 + r.IntN(8)
		for range 1 + r.IntN(12) {
			s := 0
			for range 1 + r.IntN(most) {
				s |= 1 << r.IntN(24)
			}
			l = append(l, s)
		}
		lists = append(lists, l)
	}
	return lists
}

// grown returns a hitting set of a list without the empty set: some events, and an event of each set that they miss.
func grown(r *rand.Rand, l []int) int {
	s := r.IntN(all+1) & r.IntN(all+1) & r.IntN(all+1)
	for _, other := range l {
		for other&s == 0 {
			s |= 1 << r.IntN(24) & other
		}
	}
	return s
}

// groups returns count sets of n events each that have no event in common, beginning with the event 0.
func groups(count, n int) []int {
	var list []int
	for i := range count {
		list = append(list, (1<<n-1)<<(n*i))
	}
	return list
}

// choices returns the sets of one event of each set of the list, sorted.
func choices(l []int) []int {
	list := []int{0}
	for _, s := range l {
		var longer []int
		for i := range 24 {
			for _, c := range list {
				if s>>i&1 == 1 {
					longer = append(longer, c|1<<i)
				}
			}
		}
		list = longer
	}
	slices.SortFunc(list, order)
	return list
}

// choose returns the sets of k of the events 0 to n-1, sorted.
func choose(n, k int) []int {
	var list []int
	for s := range 1 << n {
		if size(s) == k {
			list = append(list, s)
		}
	}
	return list
}

// mixed returns the list in another order.
func mixed(l []int) []int {
	l = slices.Clone(l)
	rand.New(rand.NewPCG(7, uint64(len(l)))).Shuffle(len(l), func(i, j int) { l[i], l[j] = l[j], l[i] })
	return l
}

// notSets returns ints that are not sets.
func notSets() []int {
	return []int{-1, -2, -all, -all - 1, all + 1, all + 2, 3 * (all + 1), 1 << 32, 1<<32 + 5, math.MinInt, math.MinInt + 1, math.MaxInt}
}

// badList is a list with list errors, of which the first one counts.
type badList struct {
	l    []int
	want api.Errno
}

func badLists() []badList {
	list := []badList{
		{make([]int, 1025), api.ErrLarge},
		{slices.Repeat([]int{3}, 1025), api.ErrLarge},
		{append(slices.Repeat([]int{3}, 1024), -1), api.ErrLarge},
		{append([]int{-1}, make([]int, 1024)...), api.ErrLarge},
		{append(make([]int, 1023), all+1), api.ErrRange},
		{append([]int{-1}, make([]int, 1023)...), api.ErrRange},
		{append(groups(7, 3), -1), api.ErrRange},
	}
	for _, s := range notSets() {
		list = append(list, badList{[]int{s}, api.ErrRange}, badList{[]int{4, s, 4}, api.ErrRange}, badList{[]int{0, s}, api.ErrRange})
	}
	return list
}

// listed reports a call that does not return the list and the error wanted. A nil error stands for none.
func listed(t *testing.T, got []int, err error, want []int, fault error, call string, args ...any) {
	t.Helper()
	if !slices.Equal(got, want) || err != fault {
		t.Errorf("%s%v = %v, %v, want %v, %v", call, args, got, err, want, fault)
	}
}

// told reports a call that does not return the truth value and the error wanted.
func told(t *testing.T, got bool, err error, want bool, fault error, call string, args ...any) {
	t.Helper()
	if got != want || err != fault {
		t.Errorf("%s%v = %v, %v, want %v, %v", call, args, got, err, want, fault)
	}
}

// numbered reports a call that does not return the number and the error wanted.
func numbered(t *testing.T, got int, err error, want int, fault error, call string, args ...any) {
	t.Helper()
	if got != want || err != fault {
		t.Errorf("%s%v = %d, %v, want %d, %v", call, args, got, err, want, fault)
	}
}

// priced reports a call of Cheapest that does not return the set, the sum and the error wanted.
func priced(t *testing.T, set, total int, err error, want, sum int, fault error, args ...any) {
	t.Helper()
	if set != want || total != sum || err != fault {
		t.Errorf("Cheapest%v = %d, %d, %v, want %d, %d, %v", args, set, total, err, want, sum, fault)
	}
}
