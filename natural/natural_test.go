package natural_test

import (
	"math"
	"math/big"
	"slices"
	"testing"

	"faultline/api"
	"faultline/natural"
)

func TestOf(t *testing.T) {
	for _, n := range []int{0, 1, 2, 1<<31 - 1, 1 << 31, 1<<32 - 1, 1 << 32, 1<<32 + 5, 1 << 62, math.MaxInt} {
		expect(t, natural.Of(n), big.NewInt(int64(n)), "Of", n)
	}
	for _, n := range []int{-1, -3, -1 << 32, -1<<32 - 7, math.MinInt} {
		expect(t, natural.Of(n), new(big.Int), "Of", n)
	}
}

func TestBitsAndInt(t *testing.T) {
	for _, a := range numbers(6) {
		want := toBig(a)
		for zeros := range 3 {
			arg := lay(a, zeros)
			if n := natural.Bits(arg.words); n != want.BitLen() {
				t.Errorf("Bits(%v) = %d, want %d", arg.words, n, want.BitLen())
			}
			n, ok := natural.Int(arg.words)
			if ok != want.IsInt64() || ok && int64(n) != want.Int64() || !ok && n != 0 {
				t.Errorf("Int(%v) = %d, %v", arg.words, n, ok)
			}
			arg.untouched(t, "Bits and Int")
		}
	}
	for i := range 100 {
		a := make([]uint32, 4)
		a[i/32] = 1 << (i % 32)
		if n := natural.Bits(a); n != i+1 {
			t.Errorf("Bits(%v) = %d, want %d", a, n, i+1)
		}
	}
	for _, n := range []int{0, 1, 5, 1<<32 + 9, 1 << 62, math.MaxInt} {
		if m, ok := natural.Int(natural.Of(n)); m != n || !ok {
			t.Errorf("Int(Of(%d)) = %d, %v", n, m, ok)
		}
	}
	if n := natural.Bits(make([]uint32, 5)); n != 0 {
		t.Errorf("Bits of zeros = %d", n)
	}
	if n, ok := natural.Int(make([]uint32, 5)); n != 0 || !ok {
		t.Errorf("Int of zeros = %d, %v", n, ok)
	}
}

// pairs calls f for each two numbers, with different counts of zeros at their ends, and checks the arguments after it.
func pairs(t *testing.T, list [][]uint32, call string, f func(a, b []uint32, x, y *big.Int) [][]uint32) {
	for i, a := range list {
		for j, b := range list {
			p, q := lay(a, (i+j)%3), lay(b, (i+2*j)%4%3)
			results := f(p.words, q.words, toBig(a), toBig(b))
			p.untouched(t, call, results...)
			q.untouched(t, call)
		}
	}
}

func TestCmp(t *testing.T) {
	list := numbers(8)
	for _, a := range numbers(8) {
		list = append(list, natural.Add(a, natural.Of(1)))
	}
	pairs(t, list, "Cmp", func(a, b []uint32, x, y *big.Int) [][]uint32 {
		if n := natural.Cmp(a, b); n != x.Cmp(y) {
			t.Errorf("Cmp(%v, %v) = %d", a, b, n)
		}
		return nil
	})
}

func TestAddAndMul(t *testing.T) {
	pairs(t, numbers(12), "Add and Mul", func(a, b []uint32, x, y *big.Int) [][]uint32 {
		sum, product := natural.Add(a, b), natural.Mul(a, b)
		expect(t, sum, new(big.Int).Add(x, y), "Add", a, b)
		expect(t, product, new(big.Int).Mul(x, y), "Mul", a, b)
		return [][]uint32{sum, product}
	})
}

func TestSub(t *testing.T) {
	pairs(t, numbers(12), "Sub", func(a, b []uint32, x, y *big.Int) [][]uint32 {
		difference, err := natural.Sub(a, b)
		if x.Cmp(y) < 0 {
			if err != api.ErrRange || len(difference) != 0 {
				t.Errorf("Sub(%v, %v) = %v, %v, want ErrRange", a, b, difference, err)
			}
			return nil
		}
		if err != nil {
			t.Errorf("Sub(%v, %v): %v", a, b, err)
		}
		expect(t, difference, new(big.Int).Sub(x, y), "Sub", a, b)
		return [][]uint32{difference}
	})
}

func TestRing(t *testing.T) {
	list := numbers(3)
	for i, a := range list {
		for j, b := range list {
			c := list[(7*i+3*j)%len(list)]
			if !slices.Equal(natural.Add(a, b), natural.Add(b, a)) || !slices.Equal(natural.Mul(a, b), natural.Mul(b, a)) {
				t.Errorf("%v and %v: not commutative", a, b)
			}
			if !slices.Equal(natural.Add(natural.Add(a, b), c), natural.Add(a, natural.Add(b, c))) {
				t.Errorf("%v, %v and %v: sums are not associative", a, b, c)
			}
			if !slices.Equal(natural.Mul(natural.Mul(a, b), c), natural.Mul(a, natural.Mul(b, c))) {
				t.Errorf("%v, %v and %v: products are not associative", a, b, c)
			}
			if !slices.Equal(natural.Mul(a, natural.Add(b, c)), natural.Add(natural.Mul(a, b), natural.Mul(a, c))) {
				t.Errorf("%v, %v and %v: products do not distribute", a, b, c)
			}
			if back, err := natural.Sub(natural.Add(a, b), b); err != nil || !slices.Equal(back, a) {
				t.Errorf("%v + %v - %v = %v, %v", a, b, b, back, err)
			}
		}
	}
}

func TestLongNumbers(t *testing.T) {
	s := source{2}
	for _, words := range []int{40, 129, 700} {
		a, b := s.number(words), s.number(words-7)
		x, y := toBig(a), toBig(b)
		expect(t, natural.Add(a, b), new(big.Int).Add(x, y), "Add", words)
		expect(t, natural.Mul(a, b), new(big.Int).Mul(x, y), "Mul", words)
		difference, err := natural.Sub(a, b)
		expect(t, difference, new(big.Int).Sub(x, y), "Sub", words, err)
		divides(t, natural.Mul(a, b), a)
		divides(t, a, b[:words/2])
		common(t, natural.Mul(a, b), natural.Mul(a, s.number(words)))
		roots(t, a)
		text := natural.Text(a)
		if text != x.String() {
			t.Errorf("Text of %d words = %s", words, text)
		}
		back, err := natural.Parse(text)
		expect(t, back, x, "Parse", words, err)
	}
}
