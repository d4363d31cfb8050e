package prime

import (
	"faultline/api"
	"faultline/formula"
)

// A cube of some events has a number in base 3. Each digit says what the cube has of an event, the lowest digit of the
// first event. The digit of an event that the cube does not have is the greatest one, so that a cube comes after those
// that imply it.
const (
	works = iota
	failed
	free
	base
)

// implicants returns for each cube of the events, by its number, whether it is an implicant of f. The events are those
// of the support.
func implicants(f api.Formula, events []int) []bool {
	size := 1
	for range events {
		size *= base
	}
	table := make([]bool, size)
	for number := range table {
		if place := firstFree(number); place > 0 {
			// Each state of the cube is in one of the two cubes that have the event, too.
			table[number] = table[number-(free-works)*place] && table[number-(free-failed)*place]
		} else {
			// There is no error: f has passed Check, and the state has only events of f.
			table[number], _ = formula.Value(f, cubeOf(number, events).Yes)
		}
	}
	return table
}

// firstFree returns the value of the place of the lowest digit that is free, or 0 if no digit is.
func firstFree(number int) int {
	for place := 1; number > 0; place *= base {
		if number%base == free {
			return place
		}
		number /= base
	}
	return 0
}

// isPrime reports whether a cube is an implicant, and none any more without any one of its literals. The table is that
// of the implicants.
func isPrime(table []bool, number int) bool {
	if !table[number] {
		return false
	}
	for place := 1; place < len(table); place *= base {
		digit := number / place % base
		if digit != free && table[number+(free-digit)*place] {
			return false
		}
	}
	return true
}

// cubeOf returns the cube of the events that has the number.
func cubeOf(number int, events []int) api.Cube {
	c := api.Cube{}
	for _, event := range events {
		switch number % base {
		case works:
			c.No |= 1 << event
		case failed:
			c.Yes |= 1 << event
		}
		number /= base
	}
	return c
}
