package rational

import (
	"strings"

	"faultline/api"
	"faultline/natural"
)

// maxDecimal limits the bytes of a decimal number.
const maxDecimal = 64

// Text returns a as "n" or "n/d", with "-" in front if a is below 0.
func Text(a api.Rat) string {
	a = value(a)
	text := natural.Text(a.Num)
	if a.Neg {
		text = "-" + text
	}
	if isZero(a) || isOne(a.Den) {
		return text
	}
	return text + "/" + natural.Text(a.Den)
}

// Parse reads the Text of a fraction or a decimal number: ErrLarge if s is too long, ErrForm if it is neither.
func Parse(s string) (api.Rat, error) {
	if len(s) > api.MaxText {
		return api.Rat{}, api.ErrLarge
	}
	digits, neg := strings.CutPrefix(s, "-")
	if whole, part, decimal := strings.Cut(digits, "."); decimal {
		if len(s) > maxDecimal {
			return api.Rat{}, api.ErrForm
		}
		return parseDecimal(neg, whole, part)
	}
	if num, den, broken := strings.Cut(digits, "/"); broken {
		return parseBroken(neg, num, den)
	}
	return parseWhole(neg, digits)
}

// parseDecimal reads a decimal number: the digits before the point and those behind it.
func parseDecimal(neg bool, whole, part string) (api.Rat, error) {
	before, errBefore := natural.Parse(whole)
	// With a 1 in front, which is taken off again, the digits behind the point may begin with zeros.
	behind, errBehind := natural.Parse("1" + part)
	if errBefore != nil || errBehind != nil || part == "" {
		return api.Rat{}, api.ErrForm
	}
	scale := power(natural.Of(10), len(part))
	behind, _ = natural.Sub(behind, scale)
	return lowest(neg, natural.Add(natural.Mul(before, scale), behind), scale), nil
}

// parseBroken reads the Text of a fraction that is not whole. It must be in lowest terms.
func parseBroken(neg bool, num, den string) (api.Rat, error) {
	n, errNum := natural.Parse(num)
	d, errDen := natural.Parse(den)
	if errNum != nil || errDen != nil || natural.Bits(d) < 2 {
		return api.Rat{}, api.ErrForm
	}
	a := api.Rat{Neg: neg, Num: n, Den: d}
	if !Valid(a) {
		return api.Rat{}, api.ErrForm
	}
	return a, nil
}

// parseWhole reads the Text of a whole number. Zero has no sign.
func parseWhole(neg bool, digits string) (api.Rat, error) {
	n, err := natural.Parse(digits)
	if err != nil || neg && len(n) == 0 {
		return api.Rat{}, api.ErrForm
	}
	return lowest(neg, n, natural.Of(1)), nil
}
