package natural

import "faultline/api"

const maxShift = 1 << 17

// Shift returns a * 2^n, rounded down, or ErrRange if n is beyond the limit.
func Shift(a []uint32, n int) ([]uint32, error) {
	if n < -maxShift || n > maxShift {
		return nil, api.ErrRange
	}
	a = trim(a)
	if n < 0 {
		return shiftRight(a, -n), nil
	}
	return trim(shiftLeft(a, n)), nil
}

// shiftLeft returns a * 2^n with n/32 + 1 words more than a has, be they zeros or not.
func shiftLeft(a []uint32, n int) []uint32 {
	words, rest := n/32, n%32
	out := make([]uint32, len(a)+words+1)
	for i, word := range a {
		wide := uint64(word) << rest
		out[words+i] |= uint32(wide)
		out[words+i+1] = uint32(wide >> 32)
	}
	return out
}

// shiftRight returns a / 2^n, rounded down.
func shiftRight(a []uint32, n int) []uint32 {
	words, rest := n/32, n%32
	if words >= len(a) {
		return nil
	}
	out := make([]uint32, len(a)-words)
	for i := range out {
		wide := uint64(at(a, words+i+1))<<32 | uint64(a[words+i])
		out[i] = uint32(wide >> rest)
	}
	return trim(out)
}

// Root returns the greatest r with r^2 <= a.
func Root(a []uint32) []uint32 {
	a = trim(a)
	if len(a) == 0 {
		return nil
	}
	// Newton's method: from a start above the root the values fall until the root is reached.
	root := trim(shiftLeft([]uint32{1}, (Bits(a)+1)/2))
	for {
		quotient, _, _ := Div(a, root)
		next := shiftRight(Add(root, quotient), 1)
		if Cmp(next, root) >= 0 {
			return root
		}
		root = next
	}
}
