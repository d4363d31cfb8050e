package sets_test

import (
	"math"
	"math/rand/v2"
	"slices"
	"testing"

	"faultline/api"
)

// all is the greatest set: that of the events 0 to 23.
const all = 16777215

// elements returns the events whose bits are 1, ascending: of ints below 0 by the rule that -1 is all ones.
func elements(s int) []int {
	var list []int
	for i := range 24 {
		// The quotient is rounded down, also below 0.
		quotient := math.Floor(float64(s%(all+1)) / math.Exp2(float64(i)))
		if math.Mod(quotient, 2) != 0 {
			list = append(list, i)
		}
	}
	return list
}

// set returns the set of the elements of a list.
func set(list ...int) int {
	s := 0.0
	for _, i := range list {
		s += math.Exp2(float64(i))
	}
	return int(s)
}

// notSets returns ints that are not sets, most of which have bits in common with sets.
func notSets() []int {
	return []int{
		-1, -2, -6, -all, -all - 1, -all - 2, all + 1, all + 2, all + 6, 2*all + 1, 3 * (all + 1), 1 << 32, 1<<32 + 9, 1 << 62,
		math.MinInt, math.MinInt + 9, math.MaxInt, math.MaxInt - 1, math.MinInt32, math.MaxInt32,
	}
}

// fewSets returns sets of all kinds.
func fewSets() []int {
	list := []int{0, all, all - 1, all / 2, 1 << 23, 1 << 22, 3 << 22, 1<<23 + 1, 0x555555, 0xaaaaaa, 0xfff, 0xfff000}
	for s := 1; s < 40; s++ {
		list = append(list, s)
	}
	r := rand.New(rand.NewPCG(5, 1))
	for range 40 {
		list = append(list, r.IntN(all+1), r.IntN(all+1)&r.IntN(all+1)&r.IntN(all+1))
	}
	return list
}

// samples returns sets and other ints.
func samples() []int {
	list := append(fewSets(), notSets()...)
	r := rand.New(rand.NewPCG(5, 2))
	for range 20 {
		list = append(list, int(r.Uint64()))
	}
	return list
}

// indexes returns events and other ints.
func indexes() []int {
	list := []int{math.MinInt, -1 << 32, -64, -41, -24, -2, -1, 24, 25, 31, 32, 33, 62, 63, 64, 65, 87, 128, 1 << 32, math.MaxInt}
	for i := range 24 {
		list = append(list, i)
	}
	return list
}

// numbered reports a call that does not return the number and the error wanted. A nil error stands for none.
func numbered(t *testing.T, got int, err error, want int, fault error, call string, args ...any) {
	t.Helper()
	if got != want || err != fault {
		t.Errorf("%s%v = %d, %v, want %d, %v", call, args, got, err, want, fault)
	}
}

// listed reports a call that does not return the list and the error wanted.
func listed(t *testing.T, got []int, err error, want []int, fault error, call string, args ...any) {
	t.Helper()
	if !slices.Equal(got, want) || err != fault {
		t.Errorf("%s%v = %v, %v, want %v, %v", call, args, got, err, want, fault)
	}
}

// ranged returns ErrRange unless ok.
func ranged(ok bool) error {
	if ok {
		return nil
	}
	return api.ErrRange
}
