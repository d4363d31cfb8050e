package sets

import (
	"strconv"
	"strings"

	"faultline/api"
)

// separator stands between two elements of a text.
const separator = ", "

// Text returns the elements, ascending, in braces, or ErrRange if s is not a set.
func Text(s int) (string, error) {
	list, err := List(s)
	if err != nil {
		return "", err
	}
	var numbers []string
	for _, i := range list {
		numbers = append(numbers, strconv.Itoa(i))
	}
	return "{" + strings.Join(numbers, separator) + "}", nil
}

// Parse returns the set whose Text is s: ErrForm if s is no list of numbers in braces, ErrRange if one of these is no
// event, ErrOrder if they do not ascend.
func Parse(s string) (int, error) {
	inner, opened := strings.CutPrefix(s, "{")
	inner, closed := strings.CutSuffix(inner, "}")
	if !opened || !closed {
		return 0, api.ErrForm
	}
	if inner == "" {
		return 0, nil
	}
	return parseElements(inner)
}

// parseElements reads one number or more. An error of the form counts before one of a number, wherever they are, so
// that the errors of numbers are only remembered until all of the text is read.
func parseElements(text string) (int, error) {
	set, last := 0, -1
	ranged, ordered := true, true
	for more := true; more; {
		var number string
		number, text, more = strings.Cut(text, separator)
		i, ok := parseNumber(number)
		if !ok {
			return 0, api.ErrForm
		}
		ranged = ranged && i < api.MaxVars
		ordered = ordered && i > last
		set |= 1 << i
		last = i
	}
	if !ranged {
		return 0, api.ErrRange
	}
	if !ordered {
		return 0, api.ErrOrder
	}
	return set, nil
}

// parseNumber reads a number of one or two digits, without a zero in front, and reports whether it is one.
func parseNumber(s string) (int, bool) {
	if s == "" || len(s) > 2 || len(s) == 2 && s[0] == '0' {
		return 0, false
	}
	n := 0
	for i := range len(s) {
		if s[i] < '0' || s[i] > '9' {
			return 0, false
		}
		n = n*10 + int(s[i]-'0')
	}
	return n, true
}
