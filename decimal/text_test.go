package decimal_test

import (
	"fmt"
	"math"
	"math/big"
	"regexp"
	"strings"
	"testing"

	"fundadmin/api"
	"fundadmin/bigint"
	"fundadmin/decimal"
	"fundadmin/sample"
)

// beyond are numbers of places that are not allowed.
var beyond = []int{math.MinInt, -1, 10, math.MaxInt}

func expectParse(t *testing.T, s string, places int, want api.Ratio, wrong api.Errno) {
	t.Helper()
	r, e := decimal.Parse(s, places)
	if r != want || e != wrong {
		t.Errorf("Parse(%q, %d) is %s, error %d; not %s, error %d", s, places, show(r), e, show(want), wrong)
	}
}

// TestParse is of P3.3: decimals.
func TestParse(t *testing.T) {
	for _, c := range []struct {
		s      string
		places int
		want   string
	}{
		{"0", 0, "0"}, {"0", 9, "0"}, {"0.0", 1, "0"}, {"0.000000000", 9, "0"}, {"7", 0, "7"}, {"7", 9, "7"}, {"-1", 0, "-1"}, {"10", 0, "10"}, {"100.00", 2, "100"}, {"0.50", 2, "1/2"}, {"0.5", 2, "1/2"}, {"0.5", 1, "1/2"},
		{"-0.05", 2, "-1/20"}, {"-100.10", 2, "-1001/10"}, {"12.345", 9, "2469/200"}, {"12.345", 3, "2469/200"}, {"0.000000001", 9, "1/1000000000"}, {"-0.000000001", 9, "-1/1000000000"}, {"1.000000000", 9, "1"},
		{"999999999999999", 0, "999999999999999"}, {"-999999999999999", 0, "-999999999999999"}, {"100000000000000", 2, "100000000000000"}, {"999999999999999.999999999", 9, "999999999999999999999999/1000000000"}, {"-999999999999999.9", 9, "-9999999999999999/10"},
	} {
		expectParse(t, c.s, c.places, ratioOf(t, c.want), api.OK)
	}
}

// TestParseErrors is of P3.3: texts that are almost decimals, of any places.
func TestParseErrors(t *testing.T) {
	for _, s := range []string{
		"", "-", "+", ".", "-.", "-0", "-0.0", "-0.00", "-0.000000000", "00", "01", "-01", "00.5", "-00.5", "007", "000000000000001", "1.", "-1.", "0.", ".5", "-.5", "1..5", "1.2.3", "1.2.", "..",
		" 1", "1 ", "1 .5", "1. 5", "- 1", " ", "\t1", "1\n", "+1", "+0.5", "--1", "-+1", "1-", "1.-5", "1.+5", "-1.-5", "1,5", "1,000", "1_000", "1e3", "1.5e1", "0x1", "a", "1a", "a1", "1.a", "1.5a", "Inf", "NaN", "1/2", "1.5%",
		"1\x00", "\x001", "1.\x00", "/", ":", "1/", "1:", "1./", "1.:", "\xff", "1\xff", "\u0661", "1\u0661", "1.\u0661", "\uff11", "\u22121", "1\u00a0",
		"1000000000000000", "-1000000000000000", "0000000000000000", "9999999999999999", "1234567890123456.5", strings.Repeat("9", 100), "1." + strings.Repeat("0", 100), "0.0000000001", "1.0000000000", "99999999999999999999",
	} {
		for _, places := range []int{0, 1, 2, 9} {
			expectParse(t, s, places, none, api.ErrDecimal)
		}
		for _, places := range beyond {
			expectParse(t, s, places, none, api.ErrPlaces)
		}
	}
	for _, places := range beyond {
		expectParse(t, "1", places, none, api.ErrPlaces)
	}
}

// TestParsePlaces is of P3.3: as many digits behind the point as there are places, and one more.
func TestParsePlaces(t *testing.T) {
	for places := range 10 {
		fits, longer := "-12."+strings.Repeat("3", places), "-12."+strings.Repeat("3", places+1)
		expectParse(t, longer, places, none, api.ErrDecimal)
		expectParse(t, "0."+strings.Repeat("0", places+1), places, none, api.ErrDecimal)
		if places == 0 {
			expectParse(t, fits, places, none, api.ErrDecimal)
			continue
		}
		expectParse(t, fits, places, ratioOf(t, fits), api.OK)
		expectParse(t, fits, places-1, none, api.ErrDecimal)
	}
}

// TestParseAllShort is of P3.3: all texts of at most 6 of these characters, against a regular expression.
func TestParseAllShort(t *testing.T) {
	const alphabet = "019-.+ "
	var grammars []*regexp.Regexp
	for _, places := range []int{0, 1, 2, 9} {
		fraction := ""
		if places > 0 {
			fraction = fmt.Sprintf(`(\.[0-9]{1,%d})?`, places)
		}
		grammars = append(grammars, regexp.MustCompile(`^-?(0|[1-9][0-9]{0,14})`+fraction+`$`))
	}
	zero := regexp.MustCompile(`^-[0.]*$`)
	texts, begin := []string{""}, 0
	for range 6 {
		end := len(texts)
		for _, s := range texts[begin:] {
			for _, c := range alphabet {
				texts = append(texts, s+string(c))
			}
		}
		begin = end
	}
	for _, s := range texts {
		for i, places := range []int{0, 1, 2, 9} {
			if grammars[i].MatchString(s) && !zero.MatchString(s) {
				expectParse(t, s, places, ratioOf(t, s), api.OK)
			} else {
				expectParse(t, s, places, none, api.ErrDecimal)
			}
		}
	}
}

func expectFormat(t *testing.T, n, places int, want string, wrong api.Errno) {
	t.Helper()
	s, e := decimal.Format(n, places)
	if s != want || e != wrong {
		t.Errorf("Format(%d, %d) is %q, error %d; not %q, error %d", n, places, s, e, want, wrong)
	}
}

// TestFormat is of P3.4.
func TestFormat(t *testing.T) {
	for _, c := range []struct {
		n, places int
		want      string
		wrong     api.Errno
	}{
		{0, 0, "0", api.OK}, {0, 2, "0.00", api.OK}, {0, 9, "0.000000000", api.OK}, {-5, 2, "-0.05", api.OK}, {5, 2, "0.05", api.OK}, {50, 2, "0.50", api.OK}, {500, 2, "5.00", api.OK}, {123, 0, "123", api.OK}, {-123, 0, "-123", api.OK}, {123, 1, "12.3", api.OK}, {123, 3, "0.123", api.OK}, {-123, 4, "-0.0123", api.OK},
		{-1234567, 6, "-1.234567", api.OK}, {1, 9, "0.000000001", api.OK}, {-1, 9, "-0.000000001", api.OK}, {1000, 2, "10.00", api.OK}, {-1000, 3, "-1.000", api.OK},
		{most, 9, "1000000.000000000", api.OK}, {-most, 9, "-1000000.000000000", api.OK}, {most, 0, "1000000000000000", api.OK}, {-most, 0, "-1000000000000000", api.OK}, {most - 1, 2, "9999999999999.99", api.OK},
		{most + 1, 0, "", api.ErrRange}, {-most - 1, 0, "", api.ErrRange}, {most + 1, 9, "", api.ErrRange}, {-most - 1, 9, "", api.ErrRange}, {math.MaxInt, 2, "", api.ErrRange}, {math.MinInt, 2, "", api.ErrRange},
	} {
		expectFormat(t, c.n, c.places, c.want, c.wrong)
	}
	for _, places := range beyond {
		for _, n := range []int{0, 1, most + 1, math.MinInt} {
			expectFormat(t, n, places, "", api.ErrPlaces)
		}
	}
}

// TestFormatOfSamples is of P3.4: against math/big.
func TestFormatOfSamples(t *testing.T) {
	for places := range 10 {
		for n := 1; n <= most; n = 3*n + 7 {
			for _, n := range []int{n, -n} {
				q := new(big.Rat).SetFrac(big.NewInt(int64(n)), ten(places))
				expectFormat(t, n, places, q.FloatString(places), api.OK)
			}
		}
	}
}

func expectText(t *testing.T, r api.Ratio, places int, want string, wrong api.Errno) {
	t.Helper()
	s, e := decimal.Text(r, places)
	if s != want || e != wrong {
		t.Errorf("Text(%s, %d) is %q, error %d; not %q, error %d", show(r), places, s, e, want, wrong)
	}
}

// TestText is of P3.4, written out.
func TestText(t *testing.T) {
	for _, c := range []struct {
		r      string
		places int
		want   string
		wrong  api.Errno
	}{
		{"1/2", 2, "0.5", api.OK}, {"-1/2", 1, "-0.5", api.OK}, {"-1/20", 2, "-0.05", api.OK}, {"3", 9, "3", api.OK}, {"0", 0, "0", api.OK}, {"0", 1, "0", api.OK}, {"0", 9, "0", api.OK}, {"100", 0, "100", api.OK}, {"100", 2, "100", api.OK}, {"-100", 9, "-100", api.OK}, {"10.01", 4, "10.01", api.OK}, {"100.1", 2, "100.1", api.OK},
		{"-12.345", 3, "-12.345", api.OK}, {"0.000000001", 9, "0.000000001", api.OK}, {"-0.00000001", 9, "-0.00000001", api.OK}, {"1.000000001", 9, "1.000000001", api.OK}, {"20", 1, "20", api.OK},
		{"999999999999999", 0, "999999999999999", api.OK}, {"-999999999999999", 9, "-999999999999999", api.OK}, {"999999999999999.999999999", 9, "999999999999999.999999999", api.OK}, {"-999999999999999.9", 1, "-999999999999999.9", api.OK},
		{"1000000000000000", 0, "", api.ErrDecimal}, {"-1000000000000000", 0, "", api.ErrDecimal}, {"1000000000000000", 9, "", api.ErrDecimal}, {"-1000000000000000.5", 9, "", api.ErrDecimal}, {"1000000000000000.000000001", 9, "", api.ErrDecimal},
		{"1/3", 0, "", api.ErrDecimal}, {"1/3", 9, "", api.ErrDecimal}, {"1/8", 2, "", api.ErrDecimal}, {"-1/8", 3, "-0.125", api.OK}, {"1/2", 0, "", api.ErrDecimal}, {"-1/2", 0, "", api.ErrDecimal}, {"0.0000000001", 9, "", api.ErrDecimal}, {"999999999999999.5", 0, "", api.ErrDecimal},
	} {
		expectText(t, ratioOf(t, c.r), c.places, c.want, c.wrong)
	}
}

// TestTextOfSamples is of P3.4: against math/big, which leaves zeros at the end.
func TestTextOfSamples(t *testing.T) {
	bound := new(big.Rat).SetInt(ten(15))
	count := map[api.Errno]int{}
	for _, r := range samples(t) {
		for places := range 10 {
			want, wrong := "", api.ErrDecimal
			if times(r, places).IsInt() && new(big.Rat).Abs(toRat(r)).Cmp(bound) < 0 {
				want, wrong = toRat(r).FloatString(places), api.OK
				for strings.Contains(want, ".") && strings.TrimRight(want, "0.") != want {
					want = want[:len(want)-1]
				}
			}
			count[wrong]++
			expectText(t, r, places, want, wrong)
		}
	}
	if count[api.OK] < 500 || count[api.ErrDecimal] < 500 {
		t.Errorf("too few of a kind: %v", count)
	}
}

// TestTextOrderOfErrors is of P3.4.
func TestTextOrderOfErrors(t *testing.T) {
	for _, c := range sample.Invalid() {
		for _, places := range append([]int{0, 9}, beyond...) {
			expectText(t, c.R, places, "", api.ErrRatio)
		}
	}
	for _, r := range []api.Ratio{frac(1, 2), frac(1, 3), sample.Parts(sample.Power(479), bigint.FromInt(1))} {
		for _, places := range beyond {
			expectText(t, r, places, "", api.ErrPlaces)
		}
	}
}

func expectPercent(t *testing.T, s string, want api.Ratio, wrong api.Errno) {
	t.Helper()
	r, e := decimal.Percent(s)
	if r != want || e != wrong {
		t.Errorf("Percent(%q) is %s, error %d; not %s, error %d", s, show(r), e, show(want), wrong)
	}
}

// TestPercent is of P3.5.
func TestPercent(t *testing.T) {
	for _, c := range []struct{ s, want string }{
		{"1.5%", "3/200"}, {"1.50%", "3/200"}, {"0%", "0"}, {"0.0%", "0"}, {"0.000000%", "0"}, {"100%", "1"}, {"250%", "5/2"}, {"0.000001%", "1/100000000"}, {"33.333333%", "33333333/100000000"}, {"10%", "1/10"},
		{"999999999999999%", "999999999999999/100"}, {"999999999999999.999999%", "999999999999999999999/100000000"}, {"100000000000000%", "1000000000000"},
	} {
		expectPercent(t, c.s, ratioOf(t, c.want), api.OK)
	}
	for _, s := range []string{
		"", "%", "-%", ".%", "1", "1.5", "0", "-1%", "-0%", "-0.5%", "--1%", "+1%", "1%%", "%1", "%1%", "1 %", "1% ", " 1%", "1%\n", "01%", "00%", "1.%", ".5%", "1.2.3%", "1,5%", "1e1%", "1/2%", "a%", "1\x00%", "\u0661%", "1\uff05", "1\u066a",
		"1.2345678%", "0.0000001%", "0.0000000%", "1000000000000000%", strings.Repeat("9", 16) + "%", strings.Repeat("9", 100) + "%",
	} {
		expectPercent(t, s, none, api.ErrDecimal)
	}
}

func expectPercentText(t *testing.T, r api.Ratio, want string, wrong api.Errno) {
	t.Helper()
	s, e := decimal.PercentText(r)
	if s != want || e != wrong {
		t.Errorf("PercentText(%s) is %q, error %d; not %q, error %d", show(r), s, e, want, wrong)
	}
}

// TestPercentText is of P3.5.
func TestPercentText(t *testing.T) {
	for _, c := range []struct {
		r, want string
		wrong   api.Errno
	}{
		{"3/200", "1.5%", api.OK}, {"0", "0%", api.OK}, {"1", "100%", api.OK}, {"5/2", "250%", api.OK}, {"1/10", "10%", api.OK}, {"1/100000000", "0.000001%", api.OK}, {"0.12345678", "12.345678%", api.OK}, {"1/8", "12.5%", api.OK}, {"0.1000001", "10.00001%", api.OK},
		{"9999999999999.99", "999999999999999%", api.OK}, {"9999999999999.99999999", "999999999999999.999999%", api.OK},
		{"10000000000000", "", api.ErrDecimal}, {"10000000000000.00000001", "", api.ErrDecimal}, {"1/1000000000", "", api.ErrDecimal}, {"0.000000005", "", api.ErrDecimal}, {"1/3", "", api.ErrDecimal}, {"-1/3", "", api.ErrDecimal}, {"-1/100", "", api.ErrDecimal}, {"-1", "", api.ErrDecimal}, {"-1/1000000000", "", api.ErrDecimal},
	} {
		expectPercentText(t, ratioOf(t, c.r), c.want, c.wrong)
	}
	one := bigint.FromInt(1)
	for _, r := range []api.Ratio{
		sample.Parts(sample.Power(479), one), sample.Parts(sample.Ones(480), one), sample.Parts(one, sample.Power(479)), sample.Parts(one, sample.Ones(480)), sample.Parts(sample.Ones(480), sample.Power(479)), sample.Parts(sample.Ones(479), sample.Ones(480)),
	} {
		expectPercentText(t, r, "", api.ErrDecimal)
		expectPercentText(t, minus(t, r), "", api.ErrDecimal)
	}
	for _, c := range sample.Invalid() {
		expectPercentText(t, c.R, "", api.ErrRatio)
	}
}
