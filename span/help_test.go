package span_test

import (
	"math/big"
	"slices"
	"testing"

	"faultline/api"
	"faultline/rational"
	"faultline/span"
)

// end is a fraction and the number for which it stands. A fraction that is not valid stands for 0.
type end struct {
	x     api.Rat
	n     *big.Rat
	valid bool
}

// ends returns fractions of all kinds; most of those that are not valid look like numbers other than 0.
func ends() []end {
	list := []end{{api.Rat{Num: []uint32{}, Den: []uint32{}}, new(big.Rat), true}}
	for _, s := range []string{
		"-18446744073709551617/3", "-1", "-1/2", "0", "1/3", "1", "2", "340282366920938463463374607431768211456/5",
	} {
		n, _ := new(big.Rat).SetString(s)
		x, _ := rational.Parse(s)
		list = append(list, end{x, n, true})
	}
	for _, x := range []api.Rat{
		{Neg: true},
		{Num: []uint32{3}},
		{Num: []uint32{5}, Den: []uint32{0}},
		{Neg: true, Num: []uint32{2}, Den: []uint32{4}},
		{Num: []uint32{3, 0}, Den: []uint32{1}},
	} {
		list = append(list, end{x, new(big.Rat), false})
	}
	return list
}

// sample is an argument and the numbers between which it lies. An argument that is not valid stands for 0..0.
type sample struct {
	a      api.Span
	lo, hi *big.Rat
	valid  bool
}

// samples returns spans with all ends, valid and not.
func samples() []sample {
	var list []sample
	for _, lo := range ends() {
		for _, hi := range ends() {
			a := api.Span{Lo: lo.x, Hi: hi.x}
			if lo.valid && hi.valid && lo.n.Cmp(hi.n) <= 0 {
				list = append(list, sample{a, lo.n, hi.n, true})
			} else {
				list = append(list, sample{a, new(big.Rat), new(big.Rat), false})
			}
		}
	}
	return list
}

// contains reports whether n is in the span.
func (s sample) contains(n *big.Rat) bool {
	return s.lo.Cmp(n) <= 0 && n.Cmp(s.hi) <= 0
}

// least returns the least of some numbers, greatest the greatest one.
func least(list ...*big.Rat) *big.Rat {
	return slices.MinFunc(list, (*big.Rat).Cmp)
}

func greatest(list ...*big.Rat) *big.Rat {
	return slices.MaxFunc(list, (*big.Rat).Cmp)
}

// is reports whether x is the valid form of n.
func is(x api.Rat, n *big.Rat) bool {
	return rational.Valid(x) && rational.Text(x) == n.RatString()
}

// expect reports a result that is not the valid form of lo..hi.
func expect(t *testing.T, got api.Span, lo, hi *big.Rat, call string, args ...any) {
	t.Helper()
	if !is(got.Lo, lo) || !is(got.Hi, hi) {
		t.Errorf("%s%v = %v, want %s..%s", call, args, got, lo.RatString(), hi.RatString())
	}
}

// succeeded reports a call that returned an error, or not the valid form of lo..hi.
func succeeded(t *testing.T, got api.Span, err error, lo, hi *big.Rat, call string, args ...any) {
	t.Helper()
	if err != nil {
		t.Errorf("%s%v: the error %v", call, args, err)
	}
	expect(t, got, lo, hi, call, args...)
}

// refused reports a call that does not return the error wanted, and the zero value with it.
func refused(t *testing.T, got api.Span, err error, want api.Errno, call string, args ...any) {
	t.Helper()
	if err != want {
		t.Errorf("%s%v: the error %v, want %v", call, args, err, want)
	}
	expect(t, got, new(big.Rat), new(big.Rat), call, args...)
}

// laid returns a span like a, whose lists are the first parts of longer ones.
func laid(a api.Span) api.Span {
	return api.Span{Lo: laidRat(a.Lo), Hi: laidRat(a.Hi)}
}

func laidRat(x api.Rat) api.Rat {
	return api.Rat{Neg: x.Neg, Num: laidList(x.Num), Den: laidList(x.Den)}
}

func laidList(list []uint32) []uint32 {
	longer := make([]uint32, 0, len(list)+2)
	return append(append(longer, list...), 0xdead, 0xbeef)[:len(list)]
}

// memory returns all lists of a span up to their capacity.
func memory(a api.Span) [][]uint32 {
	lists := [][]uint32{a.Lo.Num, a.Lo.Den, a.Hi.Num, a.Hi.Den}
	for i, list := range lists {
		lists[i] = list[:cap(list)]
	}
	return lists
}

// untouched reports a call that changed the argument arg, which was laid from a, or whose result shares memory with
// the argument or within itself.
func untouched(t *testing.T, call string, result, arg, a api.Span) {
	t.Helper()
	lists := memory(result)
	for i, list := range lists {
		for j := range list {
			list[j] = uint32(i)
		}
	}
	for i, list := range lists {
		if slices.ContainsFunc(list, func(word uint32) bool { return word != uint32(i) }) {
			t.Errorf("%s(%v): lists of the result share memory", call, a)
		}
	}
	before := memory(laid(a))
	for i, list := range memory(arg) {
		if !slices.Equal(list, before[i]) {
			t.Errorf("%s(%v): the memory of the argument is now %v", call, a, memory(arg))
		}
	}
}

// of returns the span with the given ends.
func of(t *testing.T, lo, hi string) api.Span {
	t.Helper()
	a, err := span.Make(fraction(t, lo), fraction(t, hi))
	if err != nil {
		t.Fatalf("%s..%s: %v", lo, hi, err)
	}
	return a
}

// fraction returns the fraction with the given text.
func fraction(t *testing.T, s string) api.Rat {
	t.Helper()
	x, err := rational.Parse(s)
	if err != nil {
		t.Fatalf("Parse(%q): %v", s, err)
	}
	return x
}
