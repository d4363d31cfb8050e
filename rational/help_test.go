package rational_test

import (
	"math/big"
	"math/rand/v2"
	"slices"
	"testing"

	"faultline/api"
	"faultline/rational"
)

// sample is an argument and the number for which it stands. An argument that is not valid stands for 0.
type sample struct {
	a     api.Rat
	value *big.Rat
	valid bool
}

// bigInt returns the value of a list of words.
func bigInt(words []uint32) *big.Int {
	n := new(big.Int)
	for i := len(words) - 1; i >= 0; i-- {
		n.Lsh(n, 32)
		n.Or(n, new(big.Int).SetUint64(uint64(words[i])))
	}
	return n
}

// words returns the absolute value of n as a list of words.
func words(n *big.Int) []uint32 {
	var list []uint32
	for rest := new(big.Int).Abs(n); rest.Sign() != 0; rest.Rsh(rest, 32) {
		list = append(list, uint32(new(big.Int).And(rest, big.NewInt(1<<32-1)).Uint64()))
	}
	return list
}

// form returns the valid form of a number.
func form(n *big.Rat) api.Rat {
	if n.Sign() == 0 {
		return api.Rat{}
	}
	return api.Rat{Neg: n.Sign() < 0, Num: words(n.Num()), Den: words(n.Denom())}
}

// number returns num / den.
func number(num, den []uint32) *big.Rat {
	return new(big.Rat).SetFrac(bigInt(num), bigInt(den))
}

// whole returns n as a fraction.
func whole(n *big.Int) *big.Rat {
	return new(big.Rat).SetInt(n)
}

// twoTo returns 2^n.
func twoTo(n uint) *big.Int {
	return new(big.Int).Lsh(big.NewInt(1), n)
}

// floorOf returns the greatest whole number that is at most n. Euclid's quotient is that, as denominators are above 0.
func floorOf(n *big.Rat) *big.Int {
	return new(big.Int).Div(n.Num(), n.Denom())
}

// long returns a list of the given length whose words look random, but are often 0 or the greatest one.
func long(r *rand.Rand, length int) []uint32 {
	list := make([]uint32, length)
	for i := range list {
		switch r.IntN(6) {
		case 0:
		case 1:
			list[i] = 1<<32 - 1
		default:
			list[i] = r.Uint32()
		}
	}
	list[length-1] |= 1
	return list
}

// numbers returns numbers of all kinds.
func numbers() []*big.Rat {
	list := []*big.Rat{new(big.Rat)}
	for _, pair := range [][2]int64{
		{1, 1}, {2, 1}, {1, 2}, {1, 3}, {2, 3}, {3, 2}, {5, 6}, {7, 6}, {1, 10}, {9, 10}, {29, 200}, {10, 1},
		{1<<32 - 1, 1}, {1 << 32, 1}, {1, 1 << 32}, {1<<32 - 1, 1 << 32}, {1<<32 + 1, 1 << 32}, {1<<63 - 1, 1}, {1, 1<<63 - 1},
	} {
		list = append(list, big.NewRat(pair[0], pair[1]))
	}
	for _, n := range []*big.Int{twoTo(63), new(big.Int).Add(twoTo(63), big.NewInt(1)), twoTo(64), twoTo(95)} {
		list = append(list, whole(n), new(big.Rat).Inv(whole(n)))
	}
	r := rand.New(rand.NewPCG(2, 1))
	for length := 1; length <= 5; length++ {
		list = append(list, number(long(r, length), long(r, 6-length)), number(long(r, length), long(r, length)))
		list = append(list, number(long(r, length), []uint32{1}))
	}
	for _, n := range slices.Clone(list[1:]) {
		list = append(list, new(big.Rat).Neg(n))
	}
	return list
}

// notValid returns fractions that are not valid; most of them look like numbers other than 0.
func notValid() []api.Rat {
	return []api.Rat{
		{Neg: true},
		{Neg: true, Num: []uint32{}, Den: []uint32{}},
		{Num: []uint32{1}},
		{Neg: true, Num: []uint32{1}},
		{Num: []uint32{1}, Den: []uint32{}},
		{Den: []uint32{1}},
		{Neg: true, Den: []uint32{1}},
		{Num: []uint32{0}},
		{Den: []uint32{0}},
		{Num: []uint32{0}, Den: []uint32{1}},
		{Num: []uint32{0}, Den: []uint32{0}},
		{Num: []uint32{5}, Den: []uint32{0}},
		{Num: []uint32{0, 0}, Den: []uint32{7}},
		{Num: []uint32{1, 0}, Den: []uint32{3}},
		{Num: []uint32{1}, Den: []uint32{3, 0}},
		{Neg: true, Num: []uint32{1, 0}, Den: []uint32{1, 0}},
		{Num: []uint32{2}, Den: []uint32{2}},
		{Num: []uint32{2}, Den: []uint32{4}},
		{Neg: true, Num: []uint32{4}, Den: []uint32{2}},
		{Num: []uint32{6}, Den: []uint32{1<<32 - 1}},
		{Num: []uint32{0, 1}, Den: []uint32{2}},
		{Num: []uint32{0, 0, 1}, Den: []uint32{0, 1}},
		{Num: []uint32{1, 2, 1}, Den: []uint32{1, 1}},
		{Neg: true, Num: []uint32{7, 7, 7, 7}, Den: []uint32{3, 3, 3, 3, 0}},
		{Num: []uint32{14, 21, 7, 7}, Den: []uint32{7, 7, 14}},
	}
}

// samples returns arguments of all kinds, valid and not.
func samples() []sample {
	list := []sample{{api.Rat{Num: []uint32{}, Den: []uint32{}}, new(big.Rat), true}}
	for _, n := range numbers() {
		list = append(list, sample{form(n), n, true})
	}
	for _, a := range notValid() {
		list = append(list, sample{a, new(big.Rat), false})
	}
	return list
}

// same reports whether all fields of two fractions are equal.
func same(a, b api.Rat) bool {
	return a.Neg == b.Neg && slices.Equal(a.Num, b.Num) && slices.Equal(a.Den, b.Den)
}

// expect reports a result that is not the valid form of the number wanted.
func expect(t *testing.T, got api.Rat, want *big.Rat, call string, args ...any) {
	t.Helper()
	if !same(got, form(want)) {
		t.Errorf("%s%v = %v, want %v", call, args, got, form(want))
	}
}

// refused reports a call that does not return the error wanted, and 0 with it.
func refused(t *testing.T, got api.Rat, err error, want api.Errno, call string, args ...any) {
	t.Helper()
	if err != want || !same(got, api.Rat{}) {
		t.Errorf("%s%v = %v, %v, want the error %v", call, args, got, err, want)
	}
}

// succeeded reports a call that returned an error, or not the valid form of the number wanted.
func succeeded(t *testing.T, got api.Rat, err error, want *big.Rat, call string, args ...any) {
	t.Helper()
	if err != nil {
		t.Errorf("%s%v: the error %v", call, args, err)
	}
	expect(t, got, want, call, args...)
}

// argument is a fraction in the midst of memory that a call must not touch.
type argument struct {
	a              api.Rat
	memory, before []uint32
}

// lay returns a fraction as an argument, with further words behind its lists.
func lay(a api.Rat) argument {
	n, d := len(a.Num), len(a.Den)
	memory := slices.Concat(a.Num, []uint32{0xdead, 0xbeef}, a.Den, []uint32{0xcafe, 0xf00d})
	laid := api.Rat{Neg: a.Neg, Num: memory[:n], Den: memory[n+2 : n+2+d]}
	return argument{laid, memory, slices.Clone(memory)}
}

// untouched reports a call that changed its argument, or whose results share memory with it or with each other.
func (arg argument) untouched(t *testing.T, call string, results ...api.Rat) {
	t.Helper()
	for _, r := range results {
		den := slices.Clone(r.Den)
		spoil(r.Num)
		if !slices.Equal(r.Den, den) {
			t.Errorf("%s(%v): the lists of a result share memory", call, arg.before)
		}
		spoil(r.Den)
	}
	if !slices.Equal(arg.memory, arg.before) {
		t.Errorf("%s(%v): the memory of the argument is now %v", call, arg.before, arg.memory)
	}
}

// spoil changes all memory of a list.
func spoil(list []uint32) {
	list = list[:cap(list)]
	for i := range list {
		list[i] ^= 0x55555555
	}
}

// parse returns the fraction with the given text.
func parse(t *testing.T, s string) api.Rat {
	t.Helper()
	a, err := rational.Parse(s)
	if err != nil {
		t.Fatalf("Parse(%q): %v", s, err)
	}
	return a
}
