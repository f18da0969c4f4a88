package date_test

import (
	"fmt"
	"math"
	"testing"
	"time"

	"fundadmin/api"
	"fundadmin/date"
)

const (
	least = math.MinInt
	most  = math.MaxInt
)

// result is what a call returned.
type result[T comparable] struct {
	value T
	e     api.Errno
}

func call[T comparable](value T, e api.Errno) result[T] { return result[T]{value, e} }

// is holds that the call that is named returned this value.
func (r result[T]) is(t *testing.T, want T, name string, args ...any) {
	t.Helper()
	if r.value != want || r.e != api.OK {
		t.Errorf("%s is %v, error %d, not %v", fmt.Sprintf(name, args...), r.value, r.e, want)
	}
}

// fails holds that the call that is named returned this error, and the zero value.
func (r result[T]) fails(t *testing.T, want api.Errno, name string, args ...any) {
	t.Helper()
	var zero T
	if r.value != zero || r.e != want {
		t.Errorf("%s is %v, error %d, not error %d", fmt.Sprintf(name, args...), r.value, r.e, want)
	}
}

// of returns the value of a call that has no error.
func (r result[T]) of(t *testing.T, name string, args ...any) T {
	t.Helper()
	if r.e != api.OK {
		t.Fatalf("%s has the error %d", fmt.Sprintf(name, args...), r.e)
	}
	return r.value
}

// civil is a date.
type civil struct{ year, month, day int }

func callCivil(n int) result[civil] {
	year, month, day, e := date.Civil(n)
	return result[civil]{civil{year, month, day}, e}
}

// on returns the number of a date that there is.
func on(t *testing.T, year, month, day int) int {
	t.Helper()
	return call(date.FromCivil(year, month, day)).of(t, "FromCivil(%d, %d, %d)", year, month, day)
}

// at returns a date by package time, whatever the numbers are.
func at(year, month, day int) time.Time {
	return time.Date(year, time.Month(month), day, 0, 0, 0, 0, time.UTC)
}

// calendar returns all days by package time.
func calendar() []time.Time {
	days := make([]time.Time, api.MaxDay+1)
	for n := range days {
		days[n] = at(2000, 1, 1+n)
	}
	return days
}

func civilOf(day time.Time) civil { return civil{day.Year(), int(day.Month()), day.Day()} }

// outside are numbers of no day.
func outside() []int {
	return []int{-1, api.MaxDay + 1, -2, api.MaxDay + 2, -api.MaxDay, 100_000, 1 << 32, -1 << 32, least, least + 1, most - 1, most}
}
