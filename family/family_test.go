package family_test

import (
	"slices"
	"strconv"
	"strings"
	"testing"

	"faultline/api"
	"faultline/family"
)

// checked returns what Check must return for a list without list errors.
func checked(l []int) error {
	if !slices.Equal(l, once(l, anything)) {
		return api.ErrOrder
	}
	if !slices.Equal(l, lowest(l)) {
		return api.ErrForm
	}
	return nil
}

func TestCheck(t *testing.T) {
	for _, l := range someLists() {
		for _, version := range [][]int{l, once(l, anything), lowest(l), highest(l)} {
			if err := family.Check(version); err != checked(version) {
				t.Errorf("Check(%v) = %v, want %v", version, err, checked(version))
			}
		}
	}
}

// The order of the whole list counts before its parts.
func TestCheckErrors(t *testing.T) {
	for _, c := range []struct {
		l    []int
		want error
	}{
		{nil, nil},
		{[]int{}, nil},
		{[]int{0}, nil},
		{[]int{all}, nil},
		{[]int{1, 2, 4}, nil},
		{[]int{8, 3}, nil},
		{powers(), nil},
		{many(1024, 2), nil},
		{[]int{0, 0}, api.ErrOrder},
		{[]int{1, 1}, api.ErrOrder},
		{[]int{3, 8}, api.ErrOrder},
		{[]int{1, 4, 2}, api.ErrOrder},
		{[]int{1, 3, 2}, api.ErrOrder},
		{[]int{0, 7, 7}, api.ErrOrder},
		{[]int{3, 0}, api.ErrOrder},
		{append(many(1023, 0), 0), api.ErrOrder},
		{[]int{0, all}, api.ErrForm},
		{[]int{0, 1}, api.ErrForm},
		{[]int{1, 3}, api.ErrForm},
		{[]int{1, 2, 12, 6}, api.ErrOrder},
		{[]int{1, 2, 6, 12}, api.ErrForm},
		{append(many(1023, 0), all), api.ErrForm},
		{append([]int{0}, many(1023, 0)...), api.ErrForm},
	} {
		if err := family.Check(c.l); err != c.want {
			t.Errorf("Check(%v) = %v, want %v", c.l, err, c.want)
		}
	}
}

func TestSort(t *testing.T) {
	for _, l := range someLists() {
		got, err := family.Sort(l)
		listed(t, got, err, once(l, anything), nil, "Sort", l)
	}
	shuffled := many(1024, 1)
	slices.Reverse(shuffled[100:])
	got, err := family.Sort(shuffled)
	listed(t, got, err, many(1024, 1), nil, "Sort", "1024 sets")
}

func TestSupport(t *testing.T) {
	for _, l := range append(someLists(), many(1024, 2)) {
		want := 0
		for _, s := range l {
			want = join(want, s)
		}
		if got, err := family.Support(l); got != want || err != nil {
			t.Errorf("Support(%v) = %d, %v, want %d", l, got, err, want)
		}
	}
}

func TestSizes(t *testing.T) {
	for _, l := range append(someLists(), many(1024, 2)) {
		var want []int
		different := once(l, anything)
		if len(different) > 0 {
			want = make([]int, size(different[len(different)-1])+1)
		}
		for _, s := range different {
			want[size(s)]++
		}
		got, err := family.Sizes(l)
		listed(t, got, err, want, nil, "Sizes", l)
	}
	got, err := family.Sizes([]int{all, 5, 0, all, 5, 6})
	want := make([]int, 25)
	want[0], want[2], want[24] = 1, 2, 1
	listed(t, got, err, want, nil, "Sizes")
}

// written returns what Text must return.
func written(l []int) string {
	var texts []string
	for _, s := range l {
		var numbers []string
		for i, power := range powers() {
			if in(s, power) {
				numbers = append(numbers, strconv.Itoa(i))
			}
		}
		texts = append(texts, "{"+strings.Join(numbers, ", ")+"}")
	}
	return strings.Join(texts, " ")
}

func TestText(t *testing.T) {
	full := make([]int, 1024)
	for i := range full {
		full[i] = all
	}
	for _, l := range append(someLists(), full, many(1024, 2)) {
		if got, err := family.Text(l); got != written(l) || err != nil {
			t.Errorf("Text(%v) = %q, %v, want %q", l, got, err, written(l))
		}
	}
	for _, c := range []struct {
		l    []int
		want string
	}{
		{nil, ""},
		{[]int{}, ""},
		{[]int{0}, "{}"},
		{[]int{0, 0}, "{} {}"},
		{[]int{6, 0, 1, 6}, "{1, 2} {} {0} {1, 2}"},
		{[]int{1 << 23, 1<<23 + 1<<10}, "{23} {10, 23}"},
	} {
		if got, err := family.Text(c.l); got != c.want || err != nil {
			t.Errorf("Text(%v) = %q, %v, want %q", c.l, got, err, c.want)
		}
	}
}
