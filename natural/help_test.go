package natural_test

import (
	"math/big"
	"slices"
	"testing"
)

// source is a fixed sequence of words that look random (splitmix64).
type source struct{ state uint64 }

func (s *source) next() uint64 {
	s.state += 0x9e3779b97f4a7c15
	z := s.state
	z = (z ^ z>>30) * 0xbf58476d1ce4e5b9
	z = (z ^ z>>27) * 0x94d049bb133111eb
	return z ^ z>>31
}

func (s *source) below(n int) int {
	return int(s.next() % uint64(n))
}

// word returns any word, but often one at which carries, borrows and estimated digits go wrong.
func (s *source) word() uint32 {
	switch s.below(8) {
	case 0:
		return 0
	case 1:
		return 1
	case 2:
		return 1 << 31
	case 3:
		return 1<<31 - 1
	case 4:
		return 1<<32 - 1
	}
	return uint32(s.next())
}

// number returns a number of the given length whose last word is not 0.
func (s *source) number(words int) []uint32 {
	a := make([]uint32, words)
	for i := range a {
		a[i] = s.word()
	}
	for words > 0 && a[words-1] == 0 {
		a[words-1] = s.word()
	}
	return a
}

// numbers returns the edge cases and some numbers of each length up to the given one.
func numbers(words int) [][]uint32 {
	list := [][]uint32{
		nil, {1}, {2}, {3}, {7}, {10}, {1<<16 - 1}, {1 << 16}, {999999999}, {1000000000}, {1000000001},
		{1<<31 - 1}, {1 << 31}, {1<<32 - 1}, {0, 1}, {1, 1}, {1<<32 - 1, 1<<31 - 1}, {0, 1 << 31}, {1<<32 - 1, 1<<32 - 1},
		{0, 0, 1}, {1, 0, 1}, {0, 0, 1 << 31}, {1<<32 - 1, 1<<32 - 1, 1<<32 - 1}, {0, 0, 0, 1},
		{0, 1<<32 - 1, 1<<31 - 1}, {1<<32 - 1, 0, 1 << 31}, {0, 1<<32 - 2, 1 << 31},
	}
	s := source{1}
	for n := 1; n <= words; n++ {
		for range 3 {
			list = append(list, s.number(n))
		}
	}
	return list
}

// toBig returns the value of a.
func toBig(a []uint32) *big.Int {
	bytes := make([]byte, 0, 4*len(a))
	for i := len(a) - 1; i >= 0; i-- {
		bytes = append(bytes, byte(a[i]>>24), byte(a[i]>>16), byte(a[i]>>8), byte(a[i]))
	}
	return new(big.Int).SetBytes(bytes)
}

// fromBig returns the words of a number that is not below 0.
func fromBig(n *big.Int) []uint32 {
	bytes := n.Bytes()
	a := make([]uint32, (len(bytes)+3)/4)
	for i, b := range bytes {
		place := len(bytes) - 1 - i
		a[place/4] |= uint32(b) << (8 * (place % 4))
	}
	return a
}

// expect reports a result that is not the number wanted, or that ends with a zero.
func expect(t *testing.T, got []uint32, want *big.Int, call string, args ...any) {
	t.Helper()
	if len(got) > 0 && got[len(got)-1] == 0 {
		t.Errorf("%s%v ends with a zero: %v", call, args, got)
	}
	if !slices.Equal(got, fromBig(want)) {
		t.Errorf("%s%v = %v, want %v", call, args, got, fromBig(want))
	}
}

// argument is a number in the midst of memory that a call must not touch.
type argument struct{ words, memory, before []uint32 }

// lay returns a as an argument, with zeros at its end and further words behind them.
func lay(a []uint32, zeros int) argument {
	memory := slices.Concat(a, make([]uint32, zeros), []uint32{0xdead, 0xbeef, 0xcafe, 0xf00d})
	return argument{memory[:len(a)+zeros], memory, slices.Clone(memory)}
}

// untouched reports a call that changed its argument, or whose results share memory with it.
func (a argument) untouched(t *testing.T, call string, results ...[]uint32) {
	t.Helper()
	for _, r := range results {
		r = r[:cap(r)]
		for i := range r {
			r[i] ^= 0x55555555
		}
	}
	if !slices.Equal(a.memory, a.before) {
		t.Errorf("%s(%v): the memory of the argument is now %v", call, a.before, a.memory)
	}
}
