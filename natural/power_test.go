package natural_test

import (
	"math"
	"math/big"
	"testing"

	"faultline/api"
	"faultline/natural"
)

func TestPower(t *testing.T) {
	for _, a := range numbers(3) {
		for _, n := range []int{0, 1, 2, 3, 5, 8, 13, 31, 64, 100} {
			arg := lay(a, n%3)
			power, err := natural.Power(arg.words, n)
			if err != nil {
				t.Errorf("Power(%v, %d): %v", a, n, err)
			}
			expect(t, power, new(big.Int).Exp(toBig(a), big.NewInt(int64(n)), nil), "Power", a, n)
			arg.untouched(t, "Power", power)
		}
	}
	for n := range 1025 {
		power, err := natural.Power([]uint32{3}, n)
		expect(t, power, new(big.Int).Exp(big.NewInt(3), big.NewInt(int64(n)), nil), "Power", 3, n, err)
	}
}

func TestPowerOfZeroAndOne(t *testing.T) {
	for _, zero := range [][]uint32{nil, {}, {0}, {0, 0}} {
		power, err := natural.Power(zero, 0)
		expect(t, power, big.NewInt(1), "Power", zero, 0, err)
		for _, n := range []int{1, 2, 1024} {
			power, err = natural.Power(zero, n)
			expect(t, power, new(big.Int), "Power", zero, n, err)
		}
	}
	power, err := natural.Power([]uint32{1, 0}, 1024)
	expect(t, power, big.NewInt(1), "Power", 1, 1024, err)
}

func TestPowerLimits(t *testing.T) {
	long := make([]uint32, 1026)
	for i := range 1024 {
		long[i] = 1<<32 - 1
	}
	longer := make([]uint32, 1025)
	longer[1024] = 1
	cases := []struct {
		a    []uint32
		n    int
		want error
	}{
		{[]uint32{2}, 1024, nil}, {[]uint32{2}, 1025, api.ErrRange}, {[]uint32{2}, -1, api.ErrRange},
		{nil, -1, api.ErrRange}, {nil, 1025, api.ErrRange}, {nil, math.MinInt, api.ErrRange}, {nil, math.MaxInt, api.ErrRange},
		{[]uint32{0, 0, 0, 1 << 31}, 1024, nil},          // 128 bits, 2^17 in all
		{[]uint32{0, 0, 0, 0, 1}, 1024, api.ErrLarge},    // 129 bits
		{[]uint32{0, 0, 0, 0, 1, 0}, 1016, nil},          // 131064
		{[]uint32{0, 0, 0, 0, 1, 0}, 1017, api.ErrLarge}, // 131193
		{long, 0, nil}, {long, 1, nil}, {long, 4, nil}, {long, 5, api.ErrLarge},
		{longer, 0, api.ErrLarge}, {longer, 1, api.ErrLarge}, {longer, 1025, api.ErrRange}, {longer, -1, api.ErrRange},
		{make([]uint32, 3000), 1024, nil},
	}
	for _, c := range cases {
		power, err := natural.Power(c.a, c.n)
		if err != c.want {
			t.Errorf("Power of %d words, %d: %v, want %v", len(c.a), c.n, err, c.want)
		}
		want := new(big.Int)
		if c.want == nil {
			want.Exp(toBig(c.a), big.NewInt(int64(c.n)), nil)
		}
		expect(t, power, want, "Power", len(c.a), c.n)
	}
}

func TestShift(t *testing.T) {
	for _, a := range numbers(6) {
		for n := -200; n <= 200; n++ {
			arg := lay(a, (n+200)%3)
			shifted, err := natural.Shift(arg.words, n)
			want := new(big.Int).Lsh(toBig(a), uint(max(n, 0)))
			want.Rsh(want, uint(max(-n, 0)))
			expect(t, shifted, want, "Shift", a, n, err)
			if err != nil {
				t.Errorf("Shift(%v, %d): %v", a, n, err)
			}
			arg.untouched(t, "Shift", shifted)
		}
	}
}

func TestShiftLimits(t *testing.T) {
	const limit = 1 << 17
	for _, a := range [][]uint32{nil, {1}, {5, 0}, {0, 9}} {
		for _, n := range []int{limit + 1, -limit - 1, math.MaxInt, math.MinInt} {
			if shifted, err := natural.Shift(a, n); err != api.ErrRange || len(shifted) != 0 {
				t.Errorf("Shift(%v, %d) = %v, %v", a, n, shifted, err)
			}
		}
		up, err := natural.Shift(a, limit)
		expect(t, up, new(big.Int).Lsh(toBig(a), limit), "Shift", a, limit, err)
		back, err := natural.Shift(up, -limit)
		expect(t, back, toBig(a), "Shift back", a, limit, err)
		gone, err := natural.Shift(a, -limit)
		expect(t, gone, new(big.Int), "Shift", a, -limit, err)
	}
}

// roots compares Root with the square root.
func roots(t *testing.T, a []uint32) {
	t.Helper()
	arg := lay(a, len(a)%3)
	root := natural.Root(arg.words)
	expect(t, root, new(big.Int).Sqrt(toBig(a)), "Root", a)
	arg.untouched(t, "Root", root)
}

func TestRoot(t *testing.T) {
	for n := range 5000 {
		roots(t, natural.Of(n))
	}
	one := natural.Of(1)
	for _, a := range numbers(12) {
		roots(t, a)
		square := natural.Mul(a, a)
		roots(t, square)
		roots(t, natural.Add(square, one))
		if less, err := natural.Sub(square, one); err == nil {
			roots(t, less)
		}
	}
}
