package rational_test

import (
	"math"
	"math/big"
	"testing"

	"faultline/api"
	"faultline/rational"
)

func TestFloor(t *testing.T) {
	for _, x := range samples() {
		arg := lay(x.a)
		got := rational.Floor(arg.a)
		expect(t, got, whole(floorOf(x.value)), "Floor", x.a)
		arg.untouched(t, "Floor", got)
	}
	for _, c := range [][2]string{
		{"-3/2", "-2"}, {"3/2", "1"}, {"-1/2", "-1"}, {"1/2", "0"}, {"-2", "-2"}, {"2", "2"}, {"0", "0"},
		{"-4294967295/2", "-2147483648"}, {"-8589934591/2", "-4294967296"}, {"8589934591/2", "4294967295"},
	} {
		if text := rational.Text(rational.Floor(parse(t, c[0]))); text != c[1] {
			t.Errorf("Floor(%s) = %s, want %s", c[0], text, c[1])
		}
	}
}

func TestRound(t *testing.T) {
	for _, x := range samples() {
		for _, d := range []int{1, 2, 3, 4, 7, 10, 100, 65537, 1<<31 - 1, 1 << 31} {
			arg := lay(x.a)
			got, err := rational.Round(arg.a, d)
			parts := new(big.Rat).Mul(x.value, big.NewRat(int64(d), 1))
			succeeded(t, got, err, new(big.Rat).SetFrac(floorOf(parts), big.NewInt(int64(d))), "Round", x.a, d)
			arg.untouched(t, "Round", got)
		}
		for _, d := range []int{0, -1, -2, -1 << 31, 1<<31 + 1, 1 << 32, math.MaxInt, math.MinInt} {
			got, err := rational.Round(x.a, d)
			refused(t, got, err, api.ErrRange, "Round", x.a, d)
		}
	}
	for _, c := range []struct {
		a    string
		d    int
		want string
	}{
		{"1/3", 100, "33/100"}, {"-1/3", 100, "-17/50"}, {"-1/3", 2, "-1/2"}, {"1/3", 2, "0"}, {"1/2", 2, "1/2"},
		{"-1/2", 2, "-1/2"}, {"7/3", 1, "2"}, {"-7/3", 1, "-3"}, {"2/3", 6, "2/3"}, {"1/4294967296", 1 << 31, "0"},
		{"-1/4294967296", 1 << 31, "-1/2147483648"},
	} {
		got, err := rational.Round(parse(t, c.a), c.d)
		if err != nil || rational.Text(got) != c.want {
			t.Errorf("Round(%s, %d) = %s, %v, want %s", c.a, c.d, rational.Text(got), err, c.want)
		}
	}
}

func TestInt(t *testing.T) {
	for _, x := range samples() {
		arg := lay(x.a)
		n, ok := rational.Int(arg.a)
		want := x.value.IsInt() && x.value.Num().IsInt64()
		if ok != want || ok && int64(n) != x.value.Num().Int64() || !ok && n != 0 {
			t.Errorf("Int(%v) = %d, %v", x.a, n, ok)
		}
		arg.untouched(t, "Int")
	}
	for _, n := range ints() {
		if m, ok := rational.Int(rational.Of(n)); m != n || !ok {
			t.Errorf("Int(Of(%d)) = %d, %v", n, m, ok)
		}
	}
	for _, s := range []string{
		"9223372036854775808", "-9223372036854775809", "18446744073709551616", "-18446744073709551616", "1/2", "-1/2",
		"-9223372036854775808/3", "18446744073709551615", "-27670116110564327424",
	} {
		if n, ok := rational.Int(parse(t, s)); n != 0 || ok {
			t.Errorf("Int(%s) = %d, %v", s, n, ok)
		}
	}
}
