package rational_test

import (
	"math"
	"math/big"
	"math/rand/v2"
	"testing"

	"faultline/api"
	"faultline/rational"
)

// powerOf returns a^n; a is not 0 if n is below 0.
func powerOf(a *big.Rat, n int) *big.Rat {
	if n < 0 {
		return new(big.Rat).Inv(powerOf(a, -n))
	}
	exponent := big.NewInt(int64(n))
	num, den := new(big.Int).Exp(a.Num(), exponent, nil), new(big.Int).Exp(a.Denom(), exponent, nil)
	return new(big.Rat).SetFrac(num, den)
}

// power checks Power for one call.
func power(t *testing.T, x sample, n int) {
	t.Helper()
	arg := lay(x.a)
	got, err := rational.Power(arg.a, n)
	switch {
	case n < -64 || n > 64:
		refused(t, got, err, api.ErrRange, "Power", x.a, n)
	case n < 0 && x.value.Sign() == 0:
		refused(t, got, err, api.ErrZero, "Power", x.a, n)
	default:
		succeeded(t, got, err, powerOf(x.value, n), "Power", x.a, n)
	}
	arg.untouched(t, "Power", got)
}

// Arguments that are not valid are among the samples: their powers are those of 0, and 0^0 is 1.
func TestPower(t *testing.T) {
	for _, x := range samples() {
		for n := -10; n <= 10; n++ {
			power(t, x, n)
		}
		for _, n := range []int{31, 32, 33, 63, 64, 65, 66, 128, 1024, math.MaxInt} {
			power(t, x, n)
			power(t, x, -n)
		}
		power(t, x, math.MinInt)
	}
	for _, s := range []string{"-3/2", "2/3", "-1", "1", "10", "0"} {
		value, _ := new(big.Rat).SetString(s)
		for n := -70; n <= 70; n++ {
			power(t, sample{parse(t, s), value, true}, n)
		}
	}
}

// The limits of natural.Power are none of fractions.
func TestPowersOfLongFractions(t *testing.T) {
	r := rand.New(rand.NewPCG(2, 3))
	for _, c := range []struct{ length, n int }{{70, 64}, {200, 41}, {1030, 0}, {1030, 1}, {1030, 5}} {
		value := number(long(r, c.length), long(r, c.length-1))
		value.Neg(value)
		x := sample{form(value), value, true}
		power(t, x, c.n)
		power(t, x, -c.n)
	}
}
