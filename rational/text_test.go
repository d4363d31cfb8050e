package rational_test

import (
	"math/big"
	"math/rand/v2"
	"regexp"
	"strings"
	"testing"

	"faultline/api"
	"faultline/rational"
)

func TestText(t *testing.T) {
	for _, x := range samples() {
		arg := lay(x.a)
		if text := rational.Text(arg.a); text != x.value.RatString() {
			t.Errorf("Text(%v) = %s, want %s", x.a, text, x.value.RatString())
		}
		arg.untouched(t, "Text")
	}
}

// TestParseOfText checks promise P2.4.
func TestParseOfText(t *testing.T) {
	list := numbers()
	r := rand.New(rand.NewPCG(2, 4))
	for length := 1; length < 40; length++ {
		list = append(list, number(long(r, length), long(r, 40-length)))
	}
	for _, n := range list {
		a, err := rational.Parse(rational.Text(form(n)))
		succeeded(t, a, err, n, "Parse", n)
		spoil(a.Num)
		if !same(api.Rat{Den: a.Den}, api.Rat{Den: form(n).Den}) {
			t.Errorf("Parse(%v): the lists share memory", n)
		}
	}
}

// reads checks that s is read as the number that it means, or refused if it is no text of one.
func reads(t *testing.T, s string, decimal *regexp.Regexp) {
	t.Helper()
	a, err := rational.Parse(s)
	value, ok := new(big.Rat).SetString(s)
	if ok && (value.RatString() == s || len(s) <= 64 && decimal.MatchString(s)) {
		succeeded(t, a, err, value, "Parse", s)
	} else {
		refused(t, a, err, api.ErrForm, "Parse", s)
	}
}

// decimals is what decimal numbers look like.
func decimals() *regexp.Regexp {
	return regexp.MustCompile(`\A-?(0|[1-9][0-9]*)\.[0-9]+\z`)
}

func TestParseOfAllShortTexts(t *testing.T) {
	decimal := decimals()
	texts := []string{""}
	for length := 0; length <= 6; length++ {
		var longer []string
		for _, s := range texts {
			reads(t, s, decimal)
			for _, c := range "0146-./" {
				if length < 6 {
					longer = append(longer, s+string(c))
				}
			}
		}
		texts = longer
	}
}

func TestParseOfAllBytes(t *testing.T) {
	decimal := decimals()
	for b := range 256 {
		c := string([]byte{byte(b)})
		for _, s := range []string{c, c + "1", "1" + c, "1" + c + "2", "1/" + c, "1.5" + c, "0." + c, "-" + c + "0.5", "1/3" + c, c + "1/3"} {
			if c != "_" && c != "e" && c != "E" && c != "p" && c != "P" && c != "+" {
				reads(t, s, decimal)
			} else if a, err := rational.Parse(s); err != api.ErrForm {
				t.Errorf("Parse(%q) = %v, %v, want ErrForm", s, a, err)
			}
		}
	}
}

func TestParse(t *testing.T) {
	for _, c := range [][2]string{
		{"0.25", "1/4"}, {"-1.50", "-3/2"}, {"0.0", "0"}, {"-0.0", "0"}, {"0.00000", "0"}, {"-0.000", "0"}, {"12", "12"},
		{"12.0", "12"}, {"-12.000", "-12"}, {"10.05", "201/20"}, {"0.000001", "1/1000000"}, {"-3/2", "-3/2"}, {"-7", "-7"},
		{"100", "100"}, {"1/4294967296", "1/4294967296"}, {"123.456", "15432/125"}, {"0.1", "1/10"},
	} {
		if text := rational.Text(parse(t, c[0])); text != c[1] {
			t.Errorf("Parse(%q) = %s, want %s", c[0], text, c[1])
		}
	}
}

func TestParseRefuses(t *testing.T) {
	for _, s := range []string{
		"", "-", "--1", "-0", "+1", "01", "-01", "00", "1/", "/1", "/", "-/", "1/0", "0/0", "-0/0", "0/1", "0/5", "-0/5", "1/1",
		"3/1", "2/4", "-6/4", "1/02", "01/2", "1/-2", "-1/-2", "1/+2", "1/2/3", "1//2", "12/18", "8589934592/4294967296",
		".", "-.", ".5", "-.5", "1.", "-1.", "00.5", "-00.5", "01.5", "1.2.3", "1..2", "1.-5", "1.+5", "1.5/2", "1/2.5", "1.5/1.5",
		"1.a", "a.1", "1e3", "1.5e3", "0x1", "1_0", "1_0.5", "1.5_0", " 1", "1 ", "1 /2", "1/ 2", "1\n", "0.5\n", "0.5 ", "\x00", "1\x00",
		"1,5", "½", "٣", "1.٣", "\xff", "inf", "NaN", "-inf",
	} {
		a, err := rational.Parse(s)
		refused(t, a, err, api.ErrForm, "Parse", s)
	}
}

// Decimal numbers have at most 64 bytes, be they digits, the point or the sign; other texts may be longer.
func TestParseOfLongDecimals(t *testing.T) {
	decimal := decimals()
	for length := 3; length <= 70; length++ {
		for _, s := range []string{
			"0." + strings.Repeat("3", length-2), "0." + strings.Repeat("0", length-3) + "7", strings.Repeat("9", length-2) + ".5",
			"0." + strings.Repeat("0", length-2), "2." + strings.Repeat("5", length-2),
		} {
			reads(t, s, decimal)
			reads(t, "-"+s, decimal)
		}
		reads(t, strings.Repeat("7", length), decimal)
		reads(t, "-1/1"+strings.Repeat("0", length), decimal)
	}
	parse(t, "-0."+strings.Repeat("1", 61))
	a, err := rational.Parse("-0." + strings.Repeat("1", 62))
	refused(t, a, err, api.ErrForm, "Parse", 65)
	parse(t, "0."+strings.Repeat("1", 62))
	a, err = rational.Parse("0." + strings.Repeat("1", 63))
	refused(t, a, err, api.ErrForm, "Parse", 65)
}

func TestParseLimit(t *testing.T) {
	for _, s := range []string{
		strings.Repeat("9", api.MaxText), "-" + strings.Repeat("8", api.MaxText-1), "1/" + strings.Repeat("7", api.MaxText-2),
		"-3/" + strings.Repeat("1", api.MaxText-4) + "2",
	} {
		if text := rational.Text(parse(t, s)); text != s {
			t.Errorf("Text(Parse(%.20s...)) has %d bytes", s, len(text))
		}
	}
	for _, s := range []string{
		strings.Repeat("0", api.MaxText), strings.Repeat("1", api.MaxText-1) + "x", "-" + strings.Repeat("0", api.MaxText-1),
		"0." + strings.Repeat("1", api.MaxText-2), "3/" + strings.Repeat("9", api.MaxText-2),
	} {
		a, err := rational.Parse(s)
		refused(t, a, err, api.ErrForm, "Parse", len(s))
	}
	for _, s := range []string{
		strings.Repeat("9", api.MaxText+1), "-" + strings.Repeat("8", api.MaxText), "1/" + strings.Repeat("7", api.MaxText-1),
		strings.Repeat("x", api.MaxText+1), strings.Repeat("0", 2*api.MaxText), "0." + strings.Repeat("0", api.MaxText),
	} {
		a, err := rational.Parse(s)
		refused(t, a, err, api.ErrLarge, "Parse", len(s))
	}
}
