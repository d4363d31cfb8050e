package sets_test

import (
	"math"
	"slices"
	"testing"

	"faultline/api"
	"faultline/sets"
)

// pascal returns the numbers of sets of k of n elements for all n up to 60, by Pascal's triangle.
func pascal() [61][62]int {
	var table [61][62]int
	for n := range table {
		table[n][0] = 1
		for k := 1; n > 0 && k <= n; k++ {
			table[n][k] = table[n-1][k-1] + table[n-1][k]
		}
	}
	return table
}

func TestBinomial(t *testing.T) {
	table := pascal()
	for n := range table {
		for k := range 62 {
			got, err := sets.Binomial(n, k)
			numbered(t, got, err, table[n][k], nil, "Binomial", n, k)
		}
		for _, k := range []int{-1, -2, -n, math.MinInt, n + 1, 61, 64, 100, 1 << 32, math.MaxInt} {
			if k < 0 || k > n {
				got, err := sets.Binomial(n, k)
				numbered(t, got, err, 0, nil, "Binomial", n, k)
			}
		}
	}
	for _, n := range []int{-1, -60, math.MinInt, 61, 62, 1 << 32, math.MaxInt} {
		for _, k := range []int{-1, 0, 1, 61, n, n + 1} {
			got, err := sets.Binomial(n, k)
			numbered(t, got, err, 0, api.ErrRange, "Binomial", n, k)
		}
	}
}

// sizes returns, for each number of elements, the sets of so many of the events below n, ascending.
func sizes(n int) [][]int {
	lists := make([][]int, n+1)
	for s := range 1 << n {
		k := len(elements(s))
		lists[k] = append(lists[k], s)
	}
	return lists
}

func TestNext(t *testing.T) {
	for _, list := range sizes(12) {
		for i, s := range list[:len(list)-1] {
			got, err := sets.Next(s)
			numbered(t, got, err, list[i+1], nil, "Next", s)
			// The same set among the upper events: the lower ones that are free take elements back.
			got, err = sets.Next(s << 12)
			numbered(t, got, err, set(raised(elements(s<<12))...), nil, "Next", s<<12)
		}
	}
	for k := range 25 {
		last := all &^ (all >> k)
		got, err := sets.Next(last)
		numbered(t, got, err, 0, api.ErrEnd, "Next", last)
	}
	for _, s := range notSets() {
		got, err := sets.Next(s)
		numbered(t, got, err, 0, api.ErrRange, "Next", s)
	}
}

// raised returns the next list of elements: the first one that can rise does so by one, and those before it become as
// small as possible.
func raised(list []int) []int {
	next := slices.Clone(list)
	for i := range next {
		if i+1 == len(next) || next[i]+1 < next[i+1] {
			next[i]++
			for j := range i {
				next[j] = j
			}
			break
		}
	}
	return next
}

// TestNextListsEverySetOnce checks promise P5.3: an ascending list of sets of k elements contains each of them, and none
// twice, if it is as long as Pascal's triangle says.
func TestNextListsEverySetOnce(t *testing.T) {
	table := pascal()
	for k := range 25 {
		s, count := 1<<k-1, 1
		for {
			next, err := sets.Next(s)
			if err != nil {
				numbered(t, next, err, 0, api.ErrEnd, "Next", s)
				break
			}
			if next <= s || next > all || sets.Count(next) != k {
				t.Fatalf("Next(%d) = %d", s, next)
			}
			s = next
			count++
		}
		if count != table[24][k] {
			t.Errorf("Next finds %d sets of %d elements, not %d", count, k, table[24][k])
		}
	}
}

// TestChoose checks promise P5.3 for Choose, too.
func TestChoose(t *testing.T) {
	table := pascal()
	for n := range 25 {
		for k := range n + 1 {
			got, err := sets.Choose(n, k)
			if table[n][k] > 1024 {
				listed(t, got, err, nil, api.ErrLarge, "Choose", n, k)
				continue
			}
			if len(got) != table[n][k] || err != nil {
				t.Errorf("Choose(%d, %d): %d sets, not %d, %v", n, k, len(got), table[n][k], err)
			}
			for i, s := range got {
				if s < 0 || s >= 1<<n || len(elements(s)) != k || i > 0 && got[i-1] >= s {
					t.Errorf("Choose(%d, %d): %d at %d", n, k, s, i)
				}
			}
		}
	}
}

func TestChooseOfFewEvents(t *testing.T) {
	for n := range 13 {
		for k, want := range sizes(n) {
			got, err := sets.Choose(n, k)
			listed(t, got, err, want, nil, "Choose", n, k)
		}
	}
}

// The range counts before the number of the sets, which is 0 or too large here.
func TestChooseOutOfRange(t *testing.T) {
	for _, c := range [][2]int{
		{-1, 0}, {-1, -1}, {-2, -3}, {0, -1}, {0, 1}, {3, 4}, {24, 25}, {25, 0}, {25, 25}, {25, 12}, {60, 30}, {61, 3}, {24, -1}, {24, -12},
		{math.MaxInt, 2}, {math.MinInt, 2}, {math.MinInt, math.MinInt}, {24, math.MaxInt}, {24, math.MinInt}, {math.MaxInt, math.MaxInt},
	} {
		got, err := sets.Choose(c[0], c[1])
		listed(t, got, err, nil, api.ErrRange, "Choose", c[0], c[1])
	}
}

// subsets returns all parts of a set in the order of the ints, without their bits: each element doubles the list.
func subsets(s int) []int {
	list := []int{0}
	for _, i := range elements(s) {
		for _, part := range slices.Clone(list) {
			list = append(list, part+set(i))
		}
	}
	return list
}

// TestParts checks promise P5.3 for Parts, too.
func TestParts(t *testing.T) {
	for _, s := range append(fewSets(), 0x3ff, 0x3ff<<14, 0x155555, 0x2aaaaa, 0x7ff, 0x7ff<<13, 0x555555, 0xfffffe) {
		got, err := sets.Parts(s)
		if len(elements(s)) > 10 {
			listed(t, got, err, nil, api.ErrLarge, "Parts", s)
			continue
		}
		want := subsets(s)
		slices.SortFunc(want, func(a, b int) int { return order(elements(a), elements(b)) })
		listed(t, got, err, want, nil, "Parts", s)
	}
}

// The range counts before the number of elements: most of these ints have more than 10 bits that are 1.
func TestPartsOutOfRange(t *testing.T) {
	for _, s := range notSets() {
		got, err := sets.Parts(s)
		listed(t, got, err, nil, api.ErrRange, "Parts", s)
	}
}

func TestMaxParts(t *testing.T) {
	if sets.MaxParts != 10 {
		t.Errorf("MaxParts is %d", sets.MaxParts)
	}
}

// Lists that are changed do not change later results.
func TestListsAreNew(t *testing.T) {
	for name, call := range map[string]func() ([]int, error){
		"List":   func() ([]int, error) { return sets.List(0xf0f) },
		"Choose": func() ([]int, error) { return sets.Choose(7, 3) },
		"Parts":  func() ([]int, error) { return sets.Parts(0x33) },
	} {
		first, _ := call()
		want := slices.Clone(first)
		clear(first[:cap(first)])
		got, err := call()
		listed(t, got, err, want, nil, name)
	}
}
