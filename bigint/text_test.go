package bigint_test

import (
	"math"
	"math/big"
	"strings"
	"testing"

	"fundadmin/api"
	"fundadmin/bigint"
)

// beyond returns the digits of 2^1024 + n, by math/big.
func beyond(n int64) string {
	x := new(big.Int).Lsh(big.NewInt(1), 1024)
	return x.Add(x, big.NewInt(n)).String()
}

// TestTexts is of P1.5: Parse and Format.
func TestTexts(t *testing.T) {
	for _, c := range []struct {
		s string
		x api.Int
	}{
		{"0", zero}, {"1", limbs(false, 1)}, {"-1", limbs(true, 1)}, {"9", limbs(false, 9)}, {"10", limbs(false, 10)}, {"-1000", limbs(true, 1000)},
		{"4294967295", limbs(false, math.MaxUint32)}, {"4294967296", limbs(false, 0, 1)}, {"-4294967297", limbs(true, 1, 1)},
		{"9223372036854775807", bigint.FromInt(math.MaxInt)}, {"-9223372036854775808", bigint.FromInt(math.MinInt)},
		{"18446744073709551616", limbs(false, 0, 0, 1)}, {"100000000000000000001", limbs(false, 1661992961, 1808227885, 5)},
		{beyond(-1), greatest()}, {"-" + beyond(-1), least()},
	} {
		if x, e := bigint.Parse(c.s); x != c.x || e != api.OK {
			t.Errorf("Parse(%q) is %s, error %d", c.s, show(x), e)
		}
		if s := bigint.Format(c.x); s != c.s {
			t.Errorf("Format of %s is %q", c.s, s)
		}
	}
	if s := bigint.Format(minusZero); s != "0" {
		t.Errorf("Format of minus zero is %q", s)
	}
	for _, x := range samples() {
		if s := bigint.Format(x); s != toBig(x).String() {
			t.Errorf("Format of %s is %q", show(x), s)
		}
	}
}

// TestTextsOfAllLengths is of P1.5: every power of ten.
func TestTextsOfAllLengths(t *testing.T) {
	x, s := limbs(false, 1), "1"
	for len(s) < 309 {
		if got := bigint.Format(x); got != s {
			t.Errorf("Format of 10^%d is %q", len(s)-1, got)
		}
		if y, e := bigint.Parse(s); y != x || e != api.OK {
			t.Errorf("Parse of 10^%d is %s, error %d", len(s)-1, show(y), e)
		}
		x, s = product(t, x, limbs(false, 10)), s+"0"
	}
	if y, e := bigint.Parse("-" + s); y != bigint.Neg(x) || e != api.OK {
		t.Errorf("Parse of minus 10^308, 309 digits: error %d", e)
	}
}

// TestTextsThatAreNone is of P1.5: the form is judged before the size.
func TestTextsThatAreNone(t *testing.T) {
	nines := strings.Repeat("9", 309)
	for _, s := range []string{
		"", "-", "-0", "00", "007", "-007", "0" + nines[1:], "--1", "+1", " 1", "1 ", "1\n", "-+1", "1-", "- 1", "1.0", "1,000", "1_000", "0x1", "1e3", "a", "12a4", "/", ":", "1/", "1:",
		"\x00", "1\x00", "\xff", "1\xff", "\uff11", "1\u0661", "\u22121",
		"1" + strings.Repeat("0", 309), "-1" + strings.Repeat("0", 309), nines + "9", nines + "x", nines[1:] + "x", "-" + nines[1:] + " ", strings.Repeat("0", 310), strings.Repeat("1", 1<<20),
	} {
		if x, e := bigint.Parse(s); x != zero || e != api.ErrNumber {
			t.Errorf("Parse(%.20q) is %s, error %d", s, show(x), e)
		}
	}
}

// TestTextsThatOverflow is of P1.5: 309 digits that are more than 1024 bits.
func TestTextsThatOverflow(t *testing.T) {
	for _, s := range []string{beyond(0), beyond(1), "2" + strings.Repeat("0", 308), strings.Repeat("9", 309), "18" + strings.Repeat("0", 307)} {
		for _, sign := range []string{"", "-"} {
			if x, e := bigint.Parse(sign + s); x != zero || e != api.ErrOverflow {
				t.Errorf("Parse(%.20q) is %s, error %d", sign+s, show(x), e)
			}
		}
	}
}
