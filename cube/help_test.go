package cube_test

import (
	"cmp"
	"math"
	"math/big"
	"math/rand/v2"
	"slices"
	"strings"
	"testing"

	"faultline/api"
)

// all is the greatest mask: that of the events 0 to 23.
const all = 16777215

// A pattern is a cube as a text of 24 characters, one for each event: it has failed (1), it works (0), or the cube does
// not have it (-). What the functions must return is found with patterns, not with masks.
type pattern string

// write returns the pattern of a cube.
func write(c api.Cube) pattern {
	text := []byte(strings.Repeat("-", 24))
	for i := range text {
		if c.Yes>>i%2 == 1 {
			text[i] = '1'
		}
		if c.No>>i%2 == 1 {
			text[i] = '0'
		}
	}
	return pattern(text)
}

// read returns the cube of a pattern, of which the last characters may be left out.
func read(p pattern) api.Cube {
	c := api.Cube{}
	for i, char := range p {
		switch char {
		case '1':
			c.Yes += 1 << i
		case '0':
			c.No += 1 << i
		}
	}
	return c
}

// list returns the cubes of patterns.
func list(patterns ...pattern) []api.Cube {
	var l []api.Cube
	for _, p := range patterns {
		l = append(l, read(p))
	}
	return l
}

// with returns the pattern with another character for an event.
func (p pattern) with(event int, char byte) pattern {
	return p[:event] + pattern(char) + p[event+1:]
}

// size returns the number of literals.
func (p pattern) size() int {
	return len(p) - strings.Count(string(p), "-")
}

// holds reports whether a state is in the cube.
func (p pattern) holds(state int) bool {
	for i, char := range p {
		if char == '1' && state>>i%2 == 0 || char == '0' && state>>i%2 == 1 {
			return false
		}
	}
	return true
}

// implies reports whether every state of p is in q.
func (p pattern) implies(q pattern) bool {
	for i := range p {
		if q[i] != '-' && q[i] != p[i] {
			return false
		}
	}
	return true
}

// clashes returns the events that have failed in one of two cubes and work in the other one.
func (p pattern) clashes(q pattern) []int {
	var events []int
	for i := range p {
		if p[i] != q[i] && p[i] != '-' && q[i] != '-' {
			events = append(events, i)
		}
	}
	return events
}

// joined returns the literals of both cubes; where they clash, those of q.
func (p pattern) joined(q pattern) pattern {
	for i := range q {
		if q[i] != '-' {
			p = p.with(i, q[i])
		}
	}
	return p
}

// minus returns what Minus must return.
func (p pattern) minus(q pattern) []pattern {
	if len(p.clashes(q)) > 0 {
		return []pattern{p}
	}
	var pieces []pattern
	for i := range q {
		if q[i] != '-' && p[i] == '-' {
			opposite := '0' + '1' - q[i]
			pieces = append(pieces, p.with(i, opposite))
			p = p.with(i, q[i])
		}
	}
	return pieces
}

// cubesOf returns all cubes that have no other events than these.
func cubesOf(events ...int) []api.Cube {
	patterns := []pattern{write(api.Cube{})}
	for _, i := range events {
		for _, p := range slices.Clone(patterns) {
			patterns = append(patterns, p.with(i, '1'), p.with(i, '0'))
		}
	}
	return list(patterns...)
}

// statesOf returns all states in which no other events than these have failed.
func statesOf(events ...int) []int {
	states := []int{0}
	for _, i := range events {
		for _, s := range slices.Clone(states) {
			states = append(states, s+1<<i)
		}
	}
	return states
}

// upTo returns the events 0 to n-1.
func upTo(n int) []int {
	var events []int
	for i := range n {
		events = append(events, i)
	}
	return events
}

// randomCube returns a cube with up to most of the events.
func randomCube(r *rand.Rand, events []int, most int) api.Cube {
	p := write(api.Cube{})
	for range r.IntN(most + 1) {
		p = p.with(events[r.IntN(len(events))], "01"[r.IntN(2)])
	}
	return read(p)
}

// pair is two cubes.
type pair struct{ a, b api.Cube }

// somePairs returns all pairs of cubes of three events, and pairs of cubes of all events, many of which have literals
// in common.
func somePairs() []pair {
	var pairs []pair
	for _, events := range [][]int{{0, 1, 2}, {23, 3, 17}} {
		for _, a := range cubesOf(events...) {
			for _, b := range cubesOf(events...) {
				pairs = append(pairs, pair{a, b})
			}
		}
	}
	r := rand.New(rand.NewPCG(12, 1))
	for range 3000 {
		most := 1 + r.IntN(40)
		a, b := randomCube(r, upTo(24), most), randomCube(r, upTo(24), most)
		pairs = append(pairs, pair{a, b})
		// The second one of these has some literals of the first one, of which one or two are often changed.
		part := write(a)
		for i := range part {
			if r.IntN(3) == 0 {
				part = part.with(i, '-')
			}
		}
		pairs = append(pairs, pair{a, read(part)}, pair{read(part), a})
		for range r.IntN(3) {
			part = part.with(r.IntN(24), "01"[r.IntN(2)])
		}
		pairs = append(pairs, pair{a, read(part)}, pair{read(part), a})
	}
	return pairs
}

// problem is a list of cubes, and some events, among which are all that the cubes have.
type problem struct {
	l      []api.Cube
	events []int
}

// someProblems returns lists of all kinds, with few enough events to look at all their states: all lists of up to three
// cubes of two events, and longer ones of up to seven events that lie anywhere.
func someProblems() []problem {
	problems := []problem{{nil, nil}, {nil, []int{5}}, {[]api.Cube{}, nil}, {[]api.Cube{{}}, nil}}
	for _, events := range [][]int{{0, 1}, {23, 9}} {
		lists := [][]api.Cube{nil}
		for range 3 {
			var longer [][]api.Cube
			for _, l := range lists {
				for _, c := range cubesOf(events...) {
					longer = append(longer, append(slices.Clone(l), c))
				}
			}
			lists = longer
			for _, l := range lists {
				problems = append(problems, problem{l, events})
			}
		}
	}
	r := rand.New(rand.NewPCG(12, 2))
	for range 600 {
		p := problem{events: r.Perm(24)[:1+r.IntN(7)]}
		most := 1 + r.IntN(2*len(p.events))
		for range r.IntN(14) {
			p.l = append(p.l, randomCube(r, p.events, most))
			if r.IntN(6) == 0 {
				p.l = append(p.l, p.l[r.IntN(len(p.l))])
			}
		}
		problems = append(problems, p)
	}
	return problems
}

// wideLists returns lists of cubes of all events.
func wideLists(seed uint64, count int) [][]api.Cube {
	r := rand.New(rand.NewPCG(12, seed))
	var lists [][]api.Cube
	for range count {
		var l []api.Cube
		most := 1 + r.IntN(24)
		for range r.IntN(9) {
			l = append(l, randomCube(r, upTo(24), most))
		}
		lists = append(lists, l)
	}
	return lists
}

// leaves splits a cube, and then the parts of it, at events that they do not have, until there are count parts.
func leaves(r *rand.Rand, c api.Cube, count int) []api.Cube {
	parts := []api.Cube{c}
	for len(parts) < count {
		i, event := r.IntN(len(parts)), r.IntN(24)
		if p := write(parts[i]); p[event] == '-' {
			parts[i] = read(p.with(event, '0'))
			parts = append(parts, read(p.with(event, '1')))
		}
	}
	r.Shuffle(len(parts), func(i, j int) { parts[i], parts[j] = parts[j], parts[i] })
	return parts
}

// parity returns the cubes in which an odd number of these events have failed and the others work.
func parity(events ...int) []api.Cube {
	patterns := []pattern{write(api.Cube{})}
	for _, i := range events {
		var longer []pattern
		for _, p := range patterns {
			longer = append(longer, p.with(i, '0'), p.with(i, '1'))
		}
		patterns = longer
	}
	return list(slices.DeleteFunc(patterns, func(p pattern) bool { return strings.Count(string(p), "1")%2 == 0 })...)
}

// inAny reports whether a state is in a cube of the list.
func inAny(l []api.Cube, state int) bool {
	return slices.ContainsFunc(l, func(c api.Cube) bool { return write(c).holds(state) })
}

// order compares cubes by the number of literals, then Yes, then No.
func order(a, b api.Cube) int {
	return cmp.Or(cmp.Compare(write(a).size(), write(b).size()), cmp.Compare(a.Yes, b.Yes), cmp.Compare(a.No, b.No))
}

// power returns 2^n.
func power(n int) int {
	result := 1
	for range n {
		result *= 2
	}
	return result
}

// oddInts returns ints that are no masks.
func oddInts() []int {
	return []int{-1, -2, -all, -all - 1, all + 1, all + 2, 3 * (all + 1), 1 << 32, 1<<32 + 5, math.MinInt, math.MinInt + 1, math.MaxInt}
}

// rawCubes returns cubes, most of which are not valid.
func rawCubes() []api.Cube {
	numbers := append(oddInts(), 0, 1, 2, 3, 4, 5, 6, 7, 8, all-1, all, all/2, 1<<23, 1<<22)
	var l []api.Cube
	for _, yes := range numbers {
		for _, no := range numbers {
			l = append(l, api.Cube{Yes: yes, No: no})
		}
	}
	return l
}

// fault returns what Check must return.
func fault(c api.Cube) error {
	for _, mask := range []int{c.Yes, c.No} {
		if mask < 0 || mask > all {
			return api.ErrRange
		}
	}
	for i := range 24 {
		if c.Yes>>i%2 == 1 && c.No>>i%2 == 1 {
			return api.ErrTwice
		}
	}
	return nil
}

// words returns the words of a natural number.
func words(n *big.Int) []uint32 {
	var l []uint32
	for rest := new(big.Int).Set(n); rest.Sign() != 0; rest.Rsh(rest, 32) {
		l = append(l, uint32(new(big.Int).And(rest, big.NewInt(1<<32-1)).Uint64()))
	}
	return l
}

// fraction returns the valid form of a number.
func fraction(n *big.Rat) api.Rat {
	if n.Sign() == 0 {
		return api.Rat{}
	}
	return api.Rat{Neg: n.Sign() < 0, Num: words(new(big.Int).Abs(n.Num())), Den: words(n.Denom())}
}

// fractions returns the valid forms of numbers.
func fractions(numbers []*big.Rat) []api.Rat {
	var l []api.Rat
	for _, n := range numbers {
		l = append(l, fraction(n))
	}
	return l
}

// probabilities returns as many numbers from 0 to 1, of which some are 0 or 1, some have many digits.
func probabilities(r *rand.Rand, count int) []*big.Rat {
	var l []*big.Rat
	for range count {
		den := int64(1 + r.IntN([]int{1, 2, 3, 20, math.MaxInt32, math.MaxInt}[r.IntN(6)]))
		n := big.NewRat(r.Int64N(den+1), den)
		if r.IntN(8) == 0 {
			n.Mul(n, n)
		}
		l = append(l, n)
	}
	return l
}

// same reports whether all fields of two fractions are equal.
func same(a, b api.Rat) bool {
	return a.Neg == b.Neg && slices.Equal(a.Num, b.Num) && slices.Equal(a.Den, b.Den)
}

// got reports a call that does not return the result and the error wanted. A nil error stands for none.
func got[T comparable](t *testing.T, result T, err error, want T, fault error, call string, args ...any) {
	t.Helper()
	if result != want || err != fault {
		t.Errorf("%s%v = %v, %v, want %v, %v", call, args, result, err, want, fault)
	}
}

// listed reports a call that does not return the list and the error wanted.
func listed(t *testing.T, result []api.Cube, err error, want []api.Cube, fault error, call string, args ...any) {
	t.Helper()
	if !slices.Equal(result, want) || err != fault {
		t.Errorf("%s%v = %v, %v, want %v, %v", call, args, result, err, want, fault)
	}
}

// found is a cube, and whether there is one.
type found struct {
	c  api.Cube
	is bool
}

// weighed reports a call of Weight that does not return the number and the error wanted.
func weighed(t *testing.T, result api.Rat, err error, want *big.Rat, fault error, args ...any) {
	t.Helper()
	if !same(result, fraction(want)) || err != fault {
		t.Errorf("Weight%v = %v, %v, want %v, %v", args, result, err, want, fault)
	}
}
