package rational_test

import (
	"math"
	"math/big"
	"testing"

	"faultline/api"
	"faultline/rational"
)

// ints are numbers at which signs and words go wrong.
func ints() []int {
	list := []int{0}
	for _, n := range []int{1, 2, 3, 4, 6, 10, 12, 1<<31 - 1, 1 << 31, 1<<32 - 1, 1 << 32, 1<<32 + 2, 1 << 62, math.MaxInt} {
		list = append(list, n, -n)
	}
	return append(list, math.MinInt)
}

func TestValid(t *testing.T) {
	for _, s := range samples() {
		arg := lay(s.a)
		if rational.Valid(arg.a) != s.valid {
			t.Errorf("Valid(%v) = %v", s.a, !s.valid)
		}
		arg.untouched(t, "Valid")
	}
}

// Each small fraction is valid exactly if it is the form of the number that it looks like.
func TestValidOfAllSmallLists(t *testing.T) {
	var lists [][]uint32
	for n := uint32(0); n < 9; n++ {
		lists = append(lists, []uint32{n}, []uint32{n, 0}, []uint32{0, n}, []uint32{n, 1}, []uint32{n, 3})
	}
	lists = append(lists, nil)
	for _, num := range lists {
		for _, den := range lists {
			for _, neg := range []bool{false, true} {
				a := api.Rat{Neg: neg, Num: num, Den: den}
				want := len(num) == 0 && len(den) == 0 && !neg
				if bigInt(den).Sign() != 0 {
					value := number(num, den)
					if neg {
						value.Neg(value)
					}
					want = same(a, form(value))
				}
				if rational.Valid(a) != want {
					t.Errorf("Valid(%v) = %v", a, !want)
				}
			}
		}
	}
}

func TestOf(t *testing.T) {
	for _, n := range ints() {
		expect(t, rational.Of(n), whole(big.NewInt(int64(n))), "Of", n)
	}
}

func TestMake(t *testing.T) {
	for _, n := range ints() {
		for _, d := range ints() {
			a, err := rational.Make(n, d)
			if d == 0 {
				refused(t, a, err, api.ErrZero, "Make", n, d)
				continue
			}
			succeeded(t, a, err, new(big.Rat).SetFrac(big.NewInt(int64(n)), big.NewInt(int64(d))), "Make", n, d)
		}
	}
	a, err := rational.Make(6, -4)
	succeeded(t, a, err, big.NewRat(-3, 2), "Make", 6, -4)
}

func TestFrom(t *testing.T) {
	var lists [][]uint32
	for _, s := range samples() {
		lists = append(lists, s.a.Num, s.a.Den)
	}
	for i, num := range lists {
		for j, den := range lists {
			for zeros := range 2 {
				from(t, (i+j)%2 == 1, append(num[:len(num):len(num)], make([]uint32, zeros)...), den)
				from(t, (i+j)%2 == 0, num, append(den[:len(den):len(den)], make([]uint32, zeros)...))
			}
		}
	}
	for _, den := range [][]uint32{nil, {}, {0}, {0, 0, 0}} {
		for _, num := range [][]uint32{nil, {0}, {1}, {4, 4}} {
			from(t, false, num, den)
			from(t, true, num, den)
		}
	}
}

// from checks From for one call.
func from(t *testing.T, neg bool, num, den []uint32) {
	t.Helper()
	arg := lay(api.Rat{Neg: neg, Num: num, Den: den})
	a, err := rational.From(neg, arg.a.Num, arg.a.Den)
	if bigInt(den).Sign() == 0 {
		refused(t, a, err, api.ErrZero, "From", neg, num, den)
	} else {
		want := number(num, den)
		if neg {
			want.Neg(want)
		}
		succeeded(t, a, err, want, "From", neg, num, den)
	}
	arg.untouched(t, "From", a)
}
