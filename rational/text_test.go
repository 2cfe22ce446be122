package rational_test

import (
	"math"
	"math/big"
	"regexp"
	"strings"
	"testing"

	"pairing/api"
	"pairing/integer"
	"pairing/rational"
)

// P2.2

const (
	positive = `[1-9][0-9]*`
	whole    = `(0|-?` + positive + `)`
	decimal  = `-?(0|` + positive + `)\.[0-9]+`
)

func checkParse(t *testing.T, s string, form *regexp.Regexp) {
	t.Helper()
	f, e := rational.Parse(s)
	if !form.MatchString(s) {
		checkError(t, f, e, api.ErrSyntax, "Parse", s)
		return
	}
	checkOK(t, e, "Parse", s)
	checkFrac(t, f, rat(s), "Parse", s)
}

// All short texts over an alphabet with the neighbours of the digits, and texts
// that are nearly right.
func TestParseForms(t *testing.T) {
	form := regexp.MustCompile(`^(` + whole + `|` + whole + `/` + positive + `|` + decimal + `)$`)
	texts := []string{""}
	for n := 0; n < len(texts) && len(texts[n]) < 6; n++ {
		for _, c := range "-01/." {
			texts = append(texts, texts[n]+string(c))
		}
	}
	for _, s := range texts {
		checkParse(t, s, form)
	}
	for _, s := range []string{"7", "0", "-7", "3/4", "-3/4", "-0.5", "12.05", "0.0"} {
		for at := range len(s) + 1 {
			for c := range 256 {
				checkParse(t, s[:at]+string([]byte{byte(c)})+s[at:], form)
			}
		}
	}
	for _, s := range []string{"1/0", "0/0", "1/00", "-0/5", "1/-0", "1/-2", "-1/-2", "1/+2", "1/2.5", "1.5/2", "1/2/3", "1//2", "1..5", "1.2.3", "0.-5", "--0.5", "-00.5", "00.5", "-0", "-.5", "5.", "-0.", "1e5", "0.1e5", "0x1.8", "1_0.5", "1.5_0", "½", "１.5", "1.٣", "Inf", "1,5"} {
		checkParse(t, s, form)
	}
}

func TestParseValues(t *testing.T) {
	for _, c := range [][2]string{{"6/4", "3/2"}, {"-0.50", "-1/2"}, {"0/5", "0"}, {"-3/6", "-1/2"}, {"12.000", "12"}, {"-0.0", "0"}, {"-0.000", "0"}, {"0.125", "1/8"}, {"-12.5", "-25/2"}, {"-1.05", "-21/20"}, {"0.10", "1/10"}, {"0.001", "1/1000"}, {"10/5", "2"}, {"-9223372036854775808/9223372036854775808", "-1"}} {
		checkFrac(t, mustParse(t, c[0]), rat(c[1]), "Parse", c[0])
	}
	for _, x := range samples() {
		checkFrac(t, mustParse(t, x.RatString()), x, "Parse", x)
		s := x.FloatString(70)
		checkFrac(t, mustParse(t, s), rat(s), "Parse", s)
	}
}

func TestParseLength(t *testing.T) {
	nines, zeros := strings.Repeat("9", 398), strings.Repeat("0", 398)
	for _, s := range []string{nines + "99", "-9" + nines, "9/" + nines, nines + "/9", "0." + nines, "9." + zeros, "0." + zeros, "-0." + nines[1:], nines + ".0", "-1" + zeros[3:] + ".5", zeros[:1] + "." + zeros[1:] + "1", nines[:199] + "/" + nines[:200], nines[:199] + "." + nines[:200]} {
		checkFrac(t, mustParse(t, s), rat(s), "Parse", s)
	}
	for _, s := range []string{nines + "999", "-99" + nines, "9/9" + nines, "0.9" + nines, "-0." + nines, "0/" + zeros + "1", strings.Repeat("x", 401), strings.Repeat("/", 401), strings.Repeat("9.", 1000)} {
		f, e := rational.Parse(s)
		checkError(t, f, e, api.ErrTooLarge, "Parse", s)
	}
	for _, s := range []string{strings.Repeat("x", 400), "0/" + zeros, zeros + ".0", "." + nines + "9", nines + "9.", nines + "9/", "9/" + nines[1:] + "x", "9." + nines[1:] + "x", strings.Repeat("ä", 200)} {
		f, e := rational.Parse(s)
		checkError(t, f, e, api.ErrSyntax, "Parse", s)
	}
}

func TestFormat(t *testing.T) {
	for _, x := range samples() {
		if s := rational.Format(fromRat(x)); s != x.RatString() {
			t.Errorf("Format of %v: %s", x, s)
		}
	}
	for _, s := range []string{"0", "1", "-3/2", "2", "-1/1000", "12345678901234567890123/7"} {
		for _, f := range disguises(rat(s)) {
			if got := rational.Format(f); got != s {
				t.Errorf("Format of %v: %s, want %s", f, got, s)
			}
		}
	}
}

func TestFormatLong(t *testing.T) {
	ten := integer.FromInt64(10)
	power, _ := integer.Pow(ten, 64)
	long, _ := integer.Pow(power, 20)
	text := "1" + strings.Repeat("0", 1280)
	if s := rational.Format(api.Frac{Num: long, Den: integer.FromInt64(-3)}); s != "-"+text+"/3" {
		t.Error("a long numerator:", s)
	}
	if s := rational.Format(api.Frac{Num: ten, Den: integer.Mul(long, ten)}); s != "1/"+text {
		t.Error("a long denominator:", s)
	}
}

// P2.3

// checkDecimal compares the form of the text, and its distance from x, with
// the definition.
func checkDecimal(t *testing.T, x *big.Rat, f api.Frac, places int) {
	t.Helper()
	s, e := rational.Decimal(f, places)
	checkOK(t, e, "Decimal", f, places)
	size, neg := strings.CutPrefix(s, "-")
	integral, decimals, point := strings.Cut(size, ".")
	digits := regexp.MustCompile(`^(0|`+positive+`)$`).MatchString(integral) && regexp.MustCompile(`^[0-9]*$`).MatchString(decimals)
	if !digits || len(decimals) != places || point != (places > 0) {
		t.Fatalf("Decimal of %v, %d: %q", x, places, s)
	}
	value := rat(s)
	if neg != (value.Sign() < 0) {
		t.Errorf("Decimal of %v, %d: %q has a wrong sign", x, places, s)
	}
	distance := new(big.Rat).Sub(x, value)
	distance.Abs(distance).Mul(distance, rat("2e"+big.NewInt(int64(places)).String()))
	isEven := strings.ContainsAny(s[len(s)-1:], "02468")
	if c := distance.Cmp(rat("1")); c > 0 || c == 0 && !isEven {
		t.Errorf("Decimal of %v, %d: %q is not the nearest, or not even", x, places, s)
	}
}

func TestDecimal(t *testing.T) {
	for _, x := range samples() {
		for _, places := range []int{0, 1, 2, 3, 17, 29, 30} {
			checkDecimal(t, x, fromRat(x), places)
		}
	}
	for n := int64(-500); n <= 500; n++ {
		x := big.NewRat(n, 80)
		for places := range 5 {
			checkDecimal(t, x, fromRat(x), places)
		}
	}
	for _, s := range []string{"0", "1/8", "-1/8", "-1/1000", "999/1000", "-5/2"} {
		for _, f := range disguises(rat(s)) {
			for places := range 31 {
				checkDecimal(t, rat(s), f, places)
			}
		}
	}
}

func TestDecimalExamples(t *testing.T) {
	for _, c := range []struct {
		f      string
		places int
		want   string
	}{
		{"1/8", 2, "0.12"}, {"3/8", 2, "0.38"}, {"-1/8", 2, "-0.12"}, {"-3/8", 2, "-0.38"},
		{"1/2", 0, "0"}, {"3/2", 0, "2"}, {"5/2", 0, "2"}, {"-1/2", 0, "0"}, {"-3/2", 0, "-2"}, {"-5/2", 0, "-2"},
		{"1/20", 1, "0.0"}, {"3/20", 1, "0.2"}, {"-1/20", 1, "0.0"}, {"51/1000", 1, "0.1"}, {"-51/1000", 1, "-0.1"},
		{"-1/1000", 2, "0.00"}, {"999/1000", 2, "1.00"}, {"-999/1000", 2, "-1.00"}, {"19/2", 0, "10"}, {"99.95", 1, "100.0"},
		{"7", 3, "7.000"}, {"0", 0, "0"}, {"0", 2, "0.00"}, {"-12.5", 1, "-12.5"}, {"1200", 0, "1200"}, {"-1200", 2, "-1200.00"}, {"1.005", 3, "1.005"},
		{"1/3", 30, "0." + strings.Repeat("3", 30)}, {"2/3", 30, "0." + strings.Repeat("6", 29) + "7"},
	} {
		s, e := rational.Decimal(mustParse(t, c.f), c.places)
		checkOK(t, e, "Decimal", c.f, c.places)
		if s != c.want {
			t.Errorf("Decimal of %s, %d: %q, want %q", c.f, c.places, s, c.want)
		}
	}
}

func TestDecimalRange(t *testing.T) {
	for _, places := range []int{-1, 31, 32, 64, 65, 256, math.MaxInt, math.MinInt} {
		for _, f := range []api.Frac{{}, fromRat(rat("1/3")), fromRat(rat("-5"))} {
			if s, e := rational.Decimal(f, places); s != "" || e != api.ErrRange {
				t.Errorf("Decimal of %v, %d: %q, error %d", f, places, s, e)
			}
		}
	}
}
