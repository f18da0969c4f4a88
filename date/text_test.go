package date_test

import (
	"strings"
	"testing"

	"fundadmin/api"
	"fundadmin/date"
)

// TestNoDate is of P5.3: texts of the form of a date, without such a date.
func TestNoDate(t *testing.T) {
	for _, s := range []string{
		"2026-02-29", "2026-02-30", "2026-02-31", "2024-02-30", "2000-02-30", "2100-02-29", "2026-04-31", "2026-01-32", "2026-01-99",
		"2026-01-00", "2026-00-01", "2026-13-01", "2026-99-01", "2026-00-00", "1999-12-31", "2200-01-01", "0000-01-01", "0026-01-01", "9999-12-31", "0000-00-00", "9999-99-99",
	} {
		call(date.Parse(s)).fails(t, api.ErrCivil, "Parse(%q)", s)
	}
}

// TestNoText is of P5.3: texts that are of no date's form, whether there is such a date or not.
func TestNoText(t *testing.T) {
	for _, s := range []string{
		"", " ", "-", "--", "2026", "2026-01", "2026-01-", "2026-1-5", "2026-01-5", "2026-1-05", "26-01-05", "226-01-05", "02026-01-05", "2026-001-05", "2026-01-005", "12026-01-05", "-2026-01-05", "+2026-01-05",
		"20260105", "2026010500", "2026/01/05", "2026.01.05", "2026 01 05", "2026-01/05", "2026/01-05", "2026_01_05", "05-01-2026", "01-05-2026", "2026-0105-", "202-601-05", "20261-1-05", "2026-011-5", "2026--1-05", "2026-01--5", "-026-01-05",
		"+026-01-05", "2026-+1-05", "2026-01-+5", " 026-01-05", "2026- 1-05", "2026-01- 5", "2026-1 -05", "2026-01-5 ", " 2026-01-05", "2026-01-05 ", "2026-01-05\n", "2026-01-05\x00", "\ufeff2026-01-05", "2026-01-05T00:00", "2026-01-052026-01-05", "\t026-01-05",
		"2026-01-0x", "0x26-01-05", "2_26-01-05", "1e26-01-05", "2026-0.-05", "2026-Jan-5", "two-thousa",
		// The minus and the hyphen of Unicode, digits of other scripts, in 10 bytes and in 10 runes.
		"2026\u221201\u221205", "2026\u201001\u201005", "20\u0662-01-05", "2026-\u0661-05", "2026-01-\u0665", "\u0662\u0660\u0662\u0666-\u0660\u0661-\u0660\u0665", "\uff12\uff10\uff12\uff16-\uff10\uff11-\uff10\uff15", "2026-01-\u00b2", "2026-01-0\u0665", "\u6708\u65e5\u5e74-", "\xff026-01-05", "2026-01-\xc3\x28",
		// There is no such date either.
		"2026-13-4", "2026-02-30 ", "1999-1-1", "2200/01/01", "0000-00-0", "20x6-13-45", "9999999999", "----------", "99999-99-99",
	} {
		call(date.Parse(s)).fails(t, api.ErrDateText, "Parse(%q)", s)
	}
}

// TestPlaces is of P5.3: every byte in every place of the texts of a date and of no date.
func TestPlaces(t *testing.T) {
	for _, s := range []string{"2026-11-20", "2199-12-31", "2026-99-99"} {
		for i := range len(s) {
			for b := range 256 {
				changed := []byte(s)
				changed[i] = byte(b)
				text := string(changed)
				r := call(date.Parse(text))
				fits := b >= '0' && b <= '9'
				if s[i] == '-' {
					fits = b == '-'
				}
				if !fits {
					r.fails(t, api.ErrDateText, "Parse(%q)", text)
				} else if r.e == api.ErrDateText {
					t.Errorf("Parse(%q) is error %d", text, r.e)
				}
			}
		}
	}
}

// TestLengths is of P5.3: beginnings of a text and repetitions of it, of all lengths but the right one.
func TestLengths(t *testing.T) {
	long := strings.Repeat("2026-11-20", 10)
	for n := range len(long) + 1 {
		if n != 10 {
			call(date.Parse(long[:n])).fails(t, api.ErrDateText, "Parse(%q)", long[:n])
		}
	}
	for n := range 30 {
		if n != 10 {
			s := strings.Repeat("1", n)
			call(date.Parse(s)).fails(t, api.ErrDateText, "Parse(%q)", s)
		}
	}
	call(date.Parse(long[10:20])).is(t, 9820, "Parse(%q)", long[10:20])
}

// TestFields is of P5.3: all months and days of two digits, of the years at the ends of the calendar and beside them, against FromCivil.
func TestFields(t *testing.T) {
	digits := func(n int) string { return string([]byte{'0' + byte(n/10), '0' + byte(n%10)}) }
	for _, year := range []int{0, 199, 1999, 2000, 2001, 2100, 2199, 2200, 9999} {
		for month := range 100 {
			for day := range 100 {
				s := digits(year/100) + digits(year%100) + "-" + digits(month) + "-" + digits(day)
				r := call(date.Parse(s))
				if want, e := date.FromCivil(year, month, day); r.value != want || r.e != e {
					t.Errorf("Parse(%q) is %d, error %d, not %d, error %d", s, r.value, r.e, want, e)
				}
			}
		}
	}
}
