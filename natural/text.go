package natural

import (
	"slices"

	"faultline/api"
)

// Digits are read and written in groups: the greatest power of ten that is a word has nine zeros.
const (
	groupDigits = 9
	groupScale  = 1000000000
)

// Text returns the decimal digits of a, without zeros in front, but "0" for 0.
func Text(a []uint32) string {
	rest := slices.Clone(trim(a))
	if len(rest) == 0 {
		return "0"
	}
	var digits []byte
	for len(rest) > 0 {
		group := divideByWord(rest, groupScale)
		rest = trim(rest)
		for range groupDigits {
			digits = append(digits, byte('0'+group%10))
			group /= 10
		}
	}
	for digits[len(digits)-1] == '0' {
		digits = digits[:len(digits)-1]
	}
	slices.Reverse(digits)
	return string(digits)
}

// Parse returns the number whose Text is s: ErrLarge if s is too long, ErrForm if there is no such number.
func Parse(s string) ([]uint32, error) {
	if len(s) > api.MaxText {
		return nil, api.ErrLarge
	}
	if !isText(s) {
		return nil, api.ErrForm
	}
	var a []uint32
	for len(s) > 0 {
		n := min(groupDigits, len(s))
		group, scale := uint32(0), uint32(1)
		for i := range n {
			group = group*10 + uint32(s[i]-'0')
			scale *= 10
		}
		a = scaleAndAdd(a, scale, group)
		s = s[n:]
	}
	return a, nil
}

// isText reports whether s is the Text of a number.
func isText(s string) bool {
	if s == "" || s[0] == '0' {
		return s == "0"
	}
	for i := range len(s) {
		if s[i] < '0' || s[i] > '9' {
			return false
		}
	}
	return true
}

// scaleAndAdd returns a * scale + word; it uses a's memory.
func scaleAndAdd(a []uint32, scale, word uint32) []uint32 {
	carry := uint64(word)
	for i := range a {
		carry += uint64(a[i]) * uint64(scale)
		a[i] = uint32(carry)
		carry >>= 32
	}
	if carry != 0 {
		a = append(a, uint32(carry))
	}
	return a
}
