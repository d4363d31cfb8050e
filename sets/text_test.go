package sets_test

import (
	"regexp"
	"strconv"
	"strings"
	"testing"

	"faultline/api"
	"faultline/sets"
)

// shape is the form of a text.
var shape = regexp.MustCompile(`\A\{((0|[1-9][0-9]?)(, (0|[1-9][0-9]?))*)?\}\z`)

// read returns what Parse must return.
func read(text string) (int, error) {
	if !shape.MatchString(text) {
		return 0, api.ErrForm
	}
	var list []int
	for _, digits := range regexp.MustCompile(`[0-9]+`).FindAllString(text, -1) {
		i, _ := strconv.Atoi(digits)
		list = append(list, i)
	}
	for _, i := range list {
		if i > 23 {
			return 0, api.ErrRange
		}
	}
	for k := 1; k < len(list); k++ {
		if list[k-1] >= list[k] {
			return 0, api.ErrOrder
		}
	}
	return set(list...), nil
}

// parses calls Parse. What it accepts must be the text of the result.
func parses(t *testing.T, text string) {
	t.Helper()
	want, fault := read(text)
	got, err := sets.Parse(text)
	numbered(t, got, err, want, fault, "Parse", text)
	if err != nil {
		return
	}
	if back, err := sets.Text(got); back != text || err != nil {
		t.Errorf("Text(%d) = %q, %v, want %q", got, back, err, text)
	}
}

// written returns what Text must return for the set of a list.
func written(list []int) string {
	text := "{"
	for k, i := range list {
		if k > 0 {
			text += ", "
		}
		text += strconv.Itoa(i)
	}
	return text + "}"
}

func TestText(t *testing.T) {
	for _, s := range fewSets() {
		if got, err := sets.Text(s); got != written(elements(s)) || err != nil {
			t.Errorf("Text(%d) = %q, %v", s, got, err)
		}
	}
	for _, s := range notSets() {
		if got, err := sets.Text(s); got != "" || err != api.ErrRange {
			t.Errorf("Text(%d) = %q, %v", s, got, err)
		}
	}
}

// TestTextAndParseAreInverse checks promise P5.4: for all sets of the first events and some of the others. That Text
// returns what Parse accepts is checked with each text below.
func TestTextAndParseAreInverse(t *testing.T) {
	for s := 0; s <= all; s += 1 + s>>10 {
		text, err := sets.Text(s)
		if err != nil {
			t.Fatalf("Text(%d): %v", s, err)
		}
		back, err := sets.Parse(text)
		numbered(t, back, err, s, nil, "Parse", text)
	}
}

// Each event, and the numbers above, alone and behind another one.
func TestParseOfNumbers(t *testing.T) {
	for i := range 101 {
		digits := strconv.Itoa(i)
		for _, text := range []string{"{" + digits + "}", "{0, " + digits + "}", "{" + digits + ", 23}", "{12, " + digits + "}", "{0" + digits + "}"} {
			parses(t, text)
		}
	}
}

// All texts of a few pieces are in the form or not, as the pieces fall.
func TestParseOfPieces(t *testing.T) {
	pieces := []string{"{", "}", ",", " ", "0", "1", "24", ", "}
	texts := []string{""}
	for range 5 {
		for _, text := range texts {
			parses(t, text)
			parses(t, "{"+text+"}")
			parses(t, "{2, "+text+"}")
		}
		var longer []string
		for _, text := range texts {
			for _, piece := range pieces {
				longer = append(longer, text+piece)
			}
		}
		texts = longer
	}
}

// Each byte of a text is left out, and replaced by any byte, and each byte is put before it.
func TestParseOfChangedTexts(t *testing.T) {
	for _, text := range []string{"{}", "{0, 3}", "{2, 10, 23}"} {
		for i := range len(text) + 1 {
			for b := range 256 {
				parses(t, text[:i]+string([]byte{byte(b)})+text[i:])
				if i < len(text) {
					parses(t, text[:i]+string([]byte{byte(b)})+text[i+1:])
				}
			}
			if i < len(text) {
				parses(t, text[:i]+text[i+1:])
			}
		}
	}
}

// The form of the whole text counts first, then the range of all elements, then their order.
func TestParseErrors(t *testing.T) {
	for _, c := range []struct {
		text string
		want error
	}{
		{"", api.ErrForm},
		{"{", api.ErrForm},
		{"}", api.ErrForm},
		{"}{", api.ErrForm},
		{"0, 1", api.ErrForm},
		{"{0} ", api.ErrForm},
		{" {0}", api.ErrForm},
		{"{0}{1}", api.ErrForm},
		{"{{0}}", api.ErrForm},
		{"{,}", api.ErrForm},
		{"{, }", api.ErrForm},
		{"{, 1}", api.ErrForm},
		{"{1, }", api.ErrForm},
		{"{1, , 2}", api.ErrForm},
		{"{1,2}", api.ErrForm},
		{"{1 ,2}", api.ErrForm},
		{"{1,  2}", api.ErrForm},
		{"{1;2}", api.ErrForm},
		{"{1\t, 2}", api.ErrForm},
		{"{+1}", api.ErrForm},
		{"{-1}", api.ErrForm},
		{"{-0}", api.ErrForm},
		{"{00}", api.ErrForm},
		{"{01}", api.ErrForm},
		{"{100}", api.ErrForm},
		{"{1_0}", api.ErrForm},
		{"{0x1}", api.ErrForm},
		{"{\u0661}", api.ErrForm},
		{"{3, 0, 99, }", api.ErrForm},
		{"{99, 0, 0, 007}", api.ErrForm},
		{"{3, 0, 100}", api.ErrForm},
		{"{24}", api.ErrRange},
		{"{64}", api.ErrRange},
		{"{99}", api.ErrRange},
		{"{99, 98}", api.ErrRange},
		{"{3, 3, 24}", api.ErrRange},
		{"{24, 3, 3}", api.ErrRange},
		{"{3, 24, 3}", api.ErrRange},
		{"{0, 0}", api.ErrOrder},
		{"{3, 0}", api.ErrOrder},
		{"{0, 2, 1, 3}", api.ErrOrder},
		{"{22, 23, 23}", api.ErrOrder},
		{"{1, 0, 22, 23}", api.ErrOrder},
	} {
		got, err := sets.Parse(c.text)
		numbered(t, got, err, 0, c.want, "Parse", c.text)
		parses(t, c.text)
	}
}

func TestParseOfLongTexts(t *testing.T) {
	many := strings.Repeat("7, ", 1<<20)
	for _, c := range []struct {
		text string
		want error
	}{
		{"{" + many + "7}", api.ErrOrder},
		{"{" + many + "24}", api.ErrRange},
		{"{24, " + many + "7}", api.ErrRange},
		{"{" + many + "}", api.ErrForm},
		{"{24, " + many + "07}", api.ErrForm},
		{"{" + strings.Repeat("7", 1<<20) + "}", api.ErrForm},
		{strings.Repeat("{", 1<<20), api.ErrForm},
		{"{" + strings.Repeat(" ", 1<<20) + "}", api.ErrForm},
	} {
		got, err := sets.Parse(c.text)
		numbered(t, got, err, 0, c.want, "Parse", c.text[:8], len(c.text))
	}
}
