package daycount_test

import (
	"strings"
	"testing"

	"fundadmin/api"
	"fundadmin/daycount"
)

// basisOf returns the basis of a word, and 0 if it has none.
func basisOf(s string) int {
	switch s {
	case "act360":
		return 1
	case "act365":
		return 2
	case "actact":
		return 3
	case "thirty360":
		return 4
	}
	return 0
}

// parse holds that Parse returns the basis that a text denotes, or the error if there is none.
func parse(t *testing.T, s string) {
	t.Helper()
	want, wrong := basisOf(s), api.OK
	if want == 0 {
		wrong = api.ErrBasis
	}
	if basis, e := daycount.Parse(s); basis != want || e != wrong {
		t.Errorf("Parse(%q) is %d, error %d; not %d, error %d", s, basis, e, want, wrong)
	}
}

func words() []string { return []string{"act360", "act365", "actact", "thirty360"} }

// TestWords is of P6.2: the words of the four, both ways.
func TestWords(t *testing.T) {
	for i, basis := range bases() {
		s, e := daycount.Format(basis)
		if s != words()[i] || e != api.OK {
			t.Errorf("Format(%d) is %q, error %d; not %q", basis, s, e, words()[i])
		}
		if again, e := daycount.Parse(words()[i]); again != basis || e != api.OK {
			t.Errorf("Parse(%q) is %d, error %d; not %d", words()[i], again, e, basis)
		}
	}
}

// TestFormatOfNone is of P6.2.
func TestFormatOfNone(t *testing.T) {
	l := noBases()
	for n := -300; n <= 300; n++ {
		if n < api.Act360 || n > api.Thirty360 {
			l = append(l, n)
		}
	}
	for _, basis := range l {
		if s, e := daycount.Format(basis); s != "" || e != api.ErrBasis {
			t.Errorf("Format(%d) is %q, error %d", basis, s, e)
		}
	}
}

// TestNoWords is of P6.2: texts that no basis has.
func TestNoWords(t *testing.T) {
	for _, s := range []string{
		"", " ", "0", "1", "4", "act", "actual", "thirty", "360", "365", "thirty365", "thirtythirty", "thirtyact", "act366", "act364", "act30", "30360", "30/360", "act/360", "act/365", "act/act", "act-360", "act_365", "act 360", "actact360", "360act",
		"Act360", "ACT360", "Act365", "ActAct", "ACTACT", "Thirty360", "THIRTY360", "act360act365", "act360 act365", "act360,", "actact\n", "actact\x00", "\x00actact", "\ufeffact360", "a\u0441t360", "act\uff13\uff16\uff10", "act\u0663\u0666\u0660", "th\u0131rty360", "\u00e1ctact", "\xff",
	} {
		if basis, e := daycount.Parse(s); basis != 0 || e != api.ErrBasis {
			t.Errorf("Parse(%q) is %d, error %d", s, basis, e)
		}
	}
}

// TestNearWords is of P6.2: the words with one byte changed, left out or put in, those of another case, and their parts and repetitions.
func TestNearWords(t *testing.T) {
	for _, word := range words() {
		for i := range len(word) + 1 {
			for b := range 256 {
				c := string([]byte{byte(b)})
				parse(t, word[:i]+c+word[i:])
				if i < len(word) {
					parse(t, word[:i]+c+word[i+1:])
				}
			}
			if i < len(word) {
				parse(t, word[:i]+word[i+1:])
				parse(t, word[:i]+strings.ToUpper(word[i:i+1])+word[i+1:])
			}
			parse(t, word[:i])
			parse(t, word[i:])
			parse(t, word[i:]+word[:i])
			for _, other := range words() {
				parse(t, word[:i]+other)
				parse(t, other+word[i:])
			}
		}
		parse(t, strings.ToUpper(word))
		parse(t, strings.Repeat(word, 1000))
	}
}
