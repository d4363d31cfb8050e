package natural_test

import (
	"math/big"
	"strings"
	"testing"

	"faultline/api"
	"faultline/natural"
)

// reads checks that s is the Text of its number, and that Parse returns it.
func reads(t *testing.T, s string) {
	t.Helper()
	a, err := natural.Parse(s)
	if err != nil {
		t.Errorf("Parse(%.40q): %v", s, err)
		return
	}
	want, _ := new(big.Int).SetString(s, 10)
	expect(t, a, want, "Parse", s)
	if text := natural.Text(a); text != s {
		t.Errorf("Text(Parse(%.40q)) = %.40q", s, text)
	}
}

func TestText(t *testing.T) {
	for _, a := range numbers(20) {
		for zeros := range 3 {
			arg := lay(a, zeros)
			text := natural.Text(arg.words)
			if want := toBig(a).String(); text != want {
				t.Errorf("Text(%v) = %s, want %s", a, text, want)
			}
			arg.untouched(t, "Text")
			back, err := natural.Parse(text)
			expect(t, back, toBig(a), "Parse", text, err)
		}
	}
}

func TestTextsOfAllLengths(t *testing.T) {
	for n := 1; n < 120; n++ {
		zeros := strings.Repeat("0", n-1)
		reads(t, "1"+zeros)
		reads(t, "7"+zeros)
		reads(t, strings.Repeat("9", n))
		reads(t, strings.Repeat("123456789", 20)[:n])
		if n > 1 {
			reads(t, "1"+zeros[1:]+"1")
		}
	}
	for n := range 2000 {
		reads(t, natural.Text(natural.Of(n)))
	}
}

func TestParseZero(t *testing.T) {
	a, err := natural.Parse("0")
	expect(t, a, new(big.Int), "Parse", "0", err)
	if err != nil {
		t.Errorf("Parse(0): %v", err)
	}
}

func TestParseRefuses(t *testing.T) {
	for _, s := range []string{
		"", " ", "00", "01", "007", "-1", "-0", "+1", "+", "-", "1a", "a", "a1", " 1", "1 ", "1 2", "1_000", "0x10", "1e3",
		"1.0", ".", "0.", "1/2", "1\n", "\x00", "1\x00", "12345678901234567890x", "x2345678901234567890", "1234567890:",
		"123/5", "12:", "9999999999/", "\xff", "٣", "1２", "𝟏",
	} {
		if a, err := natural.Parse(s); err != api.ErrForm || len(a) != 0 {
			t.Errorf("Parse(%q) = %v, %v, want ErrForm", s, a, err)
		}
	}
	for b := range 256 {
		for _, s := range []string{string([]byte{byte(b)}), string([]byte{'1', byte(b)}), string([]byte{byte(b), '1'})} {
			digits := strings.Trim(s, "0123456789") == ""
			_, err := natural.Parse(s)
			if digits && (len(s) == 1 || s[0] != '0') != (err == nil) || !digits && err != api.ErrForm {
				t.Errorf("Parse(%q): %v", s, err)
			}
		}
	}
}

func TestParseLimit(t *testing.T) {
	reads(t, strings.Repeat("8", api.MaxText-1))
	reads(t, strings.Repeat("9", api.MaxText))
	for _, s := range []string{
		strings.Repeat("1", api.MaxText+1), strings.Repeat("0", api.MaxText+1), strings.Repeat("x", api.MaxText+1),
		strings.Repeat("1", 3*api.MaxText),
	} {
		if a, err := natural.Parse(s); err != api.ErrLarge || len(a) != 0 {
			t.Errorf("Parse of %d bytes = %v, %v, want ErrLarge", len(s), a, err)
		}
	}
	for _, s := range []string{strings.Repeat("1", api.MaxText-1) + "x", strings.Repeat("0", api.MaxText)} {
		if a, err := natural.Parse(s); err != api.ErrForm || len(a) != 0 {
			t.Errorf("Parse of %d bytes = %v, %v, want ErrForm", len(s), a, err)
		}
	}
}

// A number may have more digits than Parse reads.
func TestLongText(t *testing.T) {
	a := source{7}
	n := a.number(8000)
	if text, want := natural.Text(n), toBig(n).String(); text != want {
		t.Errorf("Text of 8000 words has %d digits, want %d", len(text), len(want))
	}
}
