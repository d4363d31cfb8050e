package prime

import (
	"slices"

	"faultline/api"
	"faultline/cube"
	"faultline/sets"
)

// All returns all primes of f, sorted, or ErrLarge if there are too many.
func All(f api.Formula) ([]api.Cube, error) {
	support, err := supportOf(f)
	if err != nil {
		return nil, err
	}
	return all(f, support)
}

// Essential returns the primes of f that have a state that is in no other prime, sorted, or ErrLarge if f has too many
// primes.
func Essential(f api.Formula) ([]api.Cube, error) {
	primes, counts, err := counted(f)
	return slices.DeleteFunc(primes, counts.shared), err
}

// Irredundant returns primes of f, sorted, of which none can be left out: from all primes, beginning with the last one,
// each one is removed that has only states of others that are still there. ErrLarge if f has too many primes.
func Irredundant(f api.Formula) ([]api.Cube, error) {
	primes, counts, err := counted(f)
	for i := len(primes) - 1; i >= 0; i-- {
		if counts.shared(primes[i]) {
			counts.add(primes[i], -1)
			primes = slices.Delete(primes, i, i+1)
		}
	}
	return primes, err
}

// all returns all primes of f, sorted, or ErrLarge if there are too many.
func all(f api.Formula, support int) ([]api.Cube, error) {
	// There is no error: the support is a set.
	events, _ := sets.List(support)
	table := implicants(f, events)
	var primes []api.Cube
	for number := range table {
		if isPrime(table, number) {
			primes = append(primes, cubeOf(number, events))
		}
	}
	// No prime implies another one: Absorb keeps them all and sorts them, or refuses too many.
	return cube.Absorb(primes)
}

// tally has for each state of the events of the support the number of cubes of a list that the state is in.
type tally struct {
	support int
	counts  map[int]int
}

// counted returns all primes of f, sorted, with their tally.
func counted(f api.Formula) ([]api.Cube, tally, error) {
	support, err := supportOf(f)
	if err != nil {
		return nil, tally{}, err
	}
	primes, err := all(f, support)
	t := tally{support, map[int]int{}}
	for _, c := range primes {
		t.add(c, 1)
	}
	return primes, t, err
}

// add adds n to the numbers of the states in c.
func (t tally) add(c api.Cube, n int) {
	for state := range states(c, t.support) {
		t.counts[state] += n
	}
}

// shared reports whether every state in c, a cube of the list, is in another cube of the list.
func (t tally) shared(c api.Cube) bool {
	for state := range states(c, t.support) {
		if t.counts[state] < 2 {
			return false
		}
	}
	return true
}
