package shift_test

import (
	"math"
	"math/rand"
	"reflect"
	"slices"
	"testing"

	"gangsaw/api"
	"gangsaw/shift"
)

const (
	day  = 1440
	last = shift.MaxMinute
)

func sh(weekday, from, to int) api.Shift { return api.Shift{Weekday: weekday, From: from, To: to} }

func cal(shifts ...api.Shift) shift.Calendar { return shift.Calendar{Shifts: shifts} }

// usual is the calendar of the chapter's examples.
func usual() shift.Calendar {
	return shift.Calendar{Shifts: []api.Shift{sh(1, 480, 720), sh(1, 780, 960), sh(2, 480, 600)}, Free: []int{7}}
}

// always has work at every minute.
func always() shift.Calendar {
	var c shift.Calendar
	for d := range 7 {
		c.Shifts = append(c.Shifts, sh(d+1, 0, day))
	}
	return c
}

// full has as many shifts and free days as are allowed.
func full() shift.Calendar {
	var c shift.Calendar
	for i := range shift.MaxShifts {
		c.Shifts = append(c.Shifts, sh(3, 20*i, 20*i+20-i%2))
		c.Free = append(c.Free, 100*i+2)
	}
	return c
}

type refusal struct {
	c shift.Calendar
	e api.Errno
}

func refusals() []refusal {
	long, free := full(), full()
	long.Shifts = append(long.Shifts, sh(0, -1, 9999))
	free.Free = append(free.Free, -5)
	list := []refusal{
		{long, api.ErrTooMany},
		{free, api.ErrTooMany},
		{shift.Calendar{Shifts: make([]api.Shift, 65)}, api.ErrTooMany},
		{shift.Calendar{Free: make([]int, 65)}, api.ErrTooMany},
		{cal(sh(2, 0, 5), sh(1, 0, 5), sh(8, 0, 5)), api.ErrRange},
		{shift.Calendar{Free: []int{5, 5, 10000}}, api.ErrRange},
		{shift.Calendar{Shifts: []api.Shift{sh(1, 0, 9), sh(1, 5, 20)}, Free: []int{-1}}, api.ErrRange},
		{cal(sh(2, 0, 5), sh(1, 0, 5)), api.ErrDuplicate},
		{cal(sh(1, 10, 20), sh(1, 0, 5)), api.ErrDuplicate},
		{cal(sh(1, 0, 9), sh(1, 0, 9)), api.ErrDuplicate},
		{cal(sh(1, 0, 9), sh(1, 8, 20)), api.ErrDuplicate},
		{cal(sh(1, 0, 100), sh(1, 8, 20)), api.ErrDuplicate},
		{cal(sh(1, 0, 9), sh(1, 20, 30), sh(2, 0, 9), sh(1, 40, 50)), api.ErrDuplicate},
		{cal(sh(1, 0, 9), sh(7, 20, 30), sh(7, 29, 40)), api.ErrDuplicate},
		{shift.Calendar{Free: []int{5, 5}}, api.ErrDuplicate},
		{shift.Calendar{Free: []int{1, 9, 8}}, api.ErrDuplicate},
	}
	for _, s := range []api.Shift{{}, sh(0, 0, 5), sh(8, 0, 5), sh(-1, 0, 5), sh(1, -1, 5), sh(1, 0, 1441), sh(1, 5, 5), sh(1, 6, 5), sh(1, 1440, 1440), sh(1, 1440, 1441), sh(1, -5, -1), sh(math.MaxInt, 0, 5), sh(math.MinInt, 0, 5), sh(1, math.MinInt, math.MaxInt), sh(1, math.MaxInt, math.MinInt)} {
		list = append(list, refusal{cal(s), api.ErrRange}, refusal{cal(sh(1, 0, 1), s), api.ErrRange}, refusal{cal(s, sh(7, 0, 1)), api.ErrRange})
	}
	for _, d := range []int{-1, 10000, math.MinInt, math.MaxInt} {
		list = append(list, refusal{shift.Calendar{Free: []int{d}}, api.ErrRange}, refusal{shift.Calendar{Free: []int{5, d}}, api.ErrRange}, refusal{shift.Calendar{Free: []int{d, 5}}, api.ErrRange})
	}
	return list
}

// P12.1
func TestCheck(t *testing.T) {
	for i, c := range []shift.Calendar{
		{}, usual(), always(), full(), {Free: []int{0, 9999}}, cal(sh(1, 0, 5), sh(1, 5, 6), sh(1, 1439, 1440), sh(2, 0, 1440), sh(7, 0, 1)),
	} {
		if e := shift.Check(c); e != api.OK {
			t.Errorf("%d: %d", i, e)
		}
	}
	for i, c := range refusals() {
		if e := shift.Check(c.c); e != c.e {
			t.Errorf("%d: Check = %d, want %d", i, e, c.e)
		}
	}
}

// all calls each function with a calendar and numbers that are not allowed, if bad is, and returns the errors.
func all(t *testing.T, c shift.Calendar, minute, work int) []api.Errno {
	t.Helper()
	o, e1 := shift.Open(c, minute)
	w, e2 := shift.Work(c, minute, max(minute, 0))
	n, e3 := shift.Next(c, minute)
	a, e4 := shift.After(c, minute, work)
	b, e5 := shift.Before(c, minute, work)
	h, e6 := shift.Whole(c, minute, work)
	if o || w != 0 || n != 0 || a != 0 || b != 0 || h != 0 {
		t.Errorf("results with errors: %v %d %d %d %d %d", o, w, n, a, b, h)
	}
	return []api.Errno{e1, e2, e3, e4, e5, e6}
}

// P1: the errors of all functions with a calendar.
func TestErrors(t *testing.T) {
	for i, c := range refusals() {
		for _, minute := range []int{0, -1} {
			if got := all(t, c.c, minute, -1); !slices.Equal(got, slices.Repeat([]api.Errno{c.e}, 6)) {
				t.Errorf("%d: %v, want %d", i, got, c.e)
			}
		}
		w, e1 := shift.Week(c.c)
		l, e2 := shift.Common(c.c, refusals()[0].c)
		r, e3 := shift.Common(usual(), c.c)
		if w != 0 || e1 != c.e || e2 != c.e || e3 != c.e || l.Shifts != nil || l.Free != nil || r.Shifts != nil || r.Free != nil {
			t.Errorf("%d: Week %d, Common %d, %d, want %d", i, e1, e2, e3, c.e)
		}
	}
	for _, minute := range []int{-1, last + 1, math.MinInt, math.MaxInt} {
		if got := all(t, shift.Calendar{}, minute, 0); !slices.Equal(got, slices.Repeat([]api.Errno{api.ErrRange}, 6)) {
			t.Errorf("%d: %v", minute, got)
		}
		if got := all(t, always(), minute, 5); !slices.Equal(got, slices.Repeat([]api.Errno{api.ErrRange}, 6)) {
			t.Errorf("%d: %v", minute, got)
		}
		for i, f := range []func(shift.Calendar, int, int) (int, api.Errno){shift.Work, shift.After, shift.Before, shift.Whole} {
			if n, e := f(always(), 500, minute); n != 0 || e != api.ErrRange {
				t.Errorf("%d with work %d: %d, %d", i, minute, n, e)
			}
		}
	}
	if n, e := shift.Work(always(), 6, 5); n != 0 || e != api.ErrRange {
		t.Errorf("Work from 6 to 5: %d, %d", n, e)
	}
}

// P12.1, P12.2, P12.3, P12.4: the chapter's examples, and the ends of time.
func TestExamples(t *testing.T) {
	c, open := usual(), always()
	end := cal(sh(4, 0, 60), sh(4, 1380, day)) // the last day is a Thursday
	whole := func(c shift.Calendar, from, work int) (int, api.Errno) { return shift.Whole(c, from, work) }
	next := func(c shift.Calendar, from, _ int) (int, api.Errno) { return shift.Next(c, from) }
	for i, x := range []struct {
		f          func(shift.Calendar, int, int) (int, api.Errno)
		c          shift.Calendar
		a, b, want int
		e          api.Errno
	}{
		{shift.Work, c, 0, 10080, 540, api.OK},
		{shift.Work, c, 480, 481, 1, api.OK},
		{shift.Work, c, 719, 781, 2, api.OK},
		{shift.Work, c, 720, 780, 0, api.OK},
		{shift.Work, c, 500, 500, 0, api.OK},
		{shift.Work, c, 10080, 20160, 120, api.OK},
		{shift.Work, open, 0, last, last, api.OK},
		{shift.Work, open, last, last, 0, api.OK},
		{shift.Work, open, last - 1, last, 1, api.OK},
		{shift.Work, shift.Calendar{}, 0, last, 0, api.OK},
		{shift.Work, end, last - day, last, 120, api.OK},
		{next, c, 0, 0, 480, api.OK},
		{next, c, 479, 0, 480, api.OK},
		{next, c, 480, 0, 480, api.OK},
		{next, c, 719, 0, 719, api.OK},
		{next, c, 720, 0, 780, api.OK},
		{next, c, 960, 0, 1920, api.OK},
		{next, c, 2040, 0, 8*day + 480, api.OK},
		{next, open, last - 1, 0, last - 1, api.OK},
		{next, open, last, 0, 0, api.ErrNone},
		{next, end, last - 60, 0, last - 60, api.OK},
		{next, end, last, 0, 0, api.ErrNone},
		{next, cal(sh(5, 0, 9)), last - 6*day, 0, 0, api.ErrNone},
		{next, shift.Calendar{}, 0, 0, 0, api.ErrNone},
		{shift.After, c, 700, 30, 790, api.OK},
		{shift.After, c, 700, 20, 720, api.OK},
		{shift.After, c, 700, 21, 781, api.OK},
		{shift.After, c, 700, 0, 700, api.OK},
		{shift.After, c, 725, 0, 725, api.OK},
		{shift.After, c, 725, 1, 781, api.OK},
		{shift.After, c, 0, 540, 2040, api.OK},
		{shift.After, c, 0, 541, 8*day + 481, api.OK},
		{shift.After, open, 0, last, last, api.OK},
		{shift.After, open, 1, last, 0, api.ErrNone},
		{shift.After, open, last, 0, last, api.OK},
		{shift.After, open, last, 1, 0, api.ErrNone},
		{shift.After, shift.Calendar{}, 77, 0, 77, api.OK},
		{shift.After, shift.Calendar{}, 77, 1, 0, api.ErrNone},
		{shift.After, end, last - day, 120, last, api.OK},
		{shift.After, end, last - day, 121, 0, api.ErrNone},
		{shift.Before, c, 790, 30, 700, api.OK},
		{shift.Before, c, 790, 10, 780, api.OK},
		{shift.Before, c, 790, 11, 719, api.OK},
		{shift.Before, c, 790, 0, 790, api.OK},
		{shift.Before, c, 760, 0, 760, api.OK},
		{shift.Before, c, 760, 1, 719, api.OK},
		{shift.Before, c, 760, 240, 480, api.OK},
		{shift.Before, c, 760, 241, 0, api.ErrNone},
		{shift.Before, open, last, last, 0, api.OK},
		{shift.Before, open, last - 1, last, 0, api.ErrNone},
		{shift.Before, open, 0, 0, 0, api.OK},
		{shift.Before, open, 0, 1, 0, api.ErrNone},
		{shift.Before, shift.Calendar{}, last, 0, last, api.OK},
		{shift.Before, shift.Calendar{}, last, 1, 0, api.ErrNone},
		{whole, c, 0, 200, 480, api.OK},
		{whole, c, 600, 130, 780, api.OK},
		{whole, c, 600, 120, 600, api.OK},
		{whole, c, 601, 120, 780, api.OK},
		{whole, c, 800, 200, 20640, api.OK},
		{whole, c, 0, 240, 480, api.OK},
		{whole, c, 0, 241, 0, api.ErrNone},
		{whole, c, 720, 0, 780, api.OK},
		{whole, c, 719, 0, 719, api.OK},
		{whole, c, 719, 1, 719, api.OK},
		{whole, c, 719, 2, 780, api.OK},
		{whole, open, 0, last, 0, api.OK},
		{whole, open, 1, last, 0, api.ErrNone},
		{whole, open, 5, last - 5, 5, api.OK},
		{whole, open, last, 0, 0, api.ErrNone},
		{whole, open, last - 1, 0, last - 1, api.OK},
		{whole, cal(sh(1, 0, 5), sh(1, 5, 9), sh(1, 10, 14)), 0, 9, 0, api.OK},
		{whole, cal(sh(1, 0, 5), sh(1, 5, 9), sh(1, 10, 14)), 3, 6, 3, api.OK},
		{whole, cal(sh(1, 0, 5), sh(1, 5, 9), sh(1, 10, 14)), 6, 4, 10, api.OK},
		{whole, cal(sh(1, 1400, day), sh(2, 0, 30), sh(4, 0, day)), 0, 70, 1400, api.OK},
		{whole, cal(sh(1, 1400, day), sh(2, 0, 30), sh(4, 0, day)), 0, 71, 3 * day, api.OK},
		{whole, shift.Calendar{Shifts: []api.Shift{sh(1, 1400, day), sh(2, 0, 30)}, Free: []int{1}}, 0, 70, 7*day + 1400, api.OK},
	} {
		if n, e := x.f(x.c, x.a, x.b); n != x.want || e != x.e {
			t.Errorf("%d: (%d, %d) = %d, %d, want %d, %d", i, x.a, x.b, n, e, x.want, x.e)
		}
	}
	for minute, want := range map[int]bool{0: false, 479: false, 480: true, 719: true, 720: false, 780: true, 959: true, 960: false, day + 480: true, 2*day + 480: false, 7*day + 480: false, 8*day + 480: true, 14*day + 480: true, last: false} {
		if got, e := shift.Open(c, minute); got != want || e != api.OK {
			t.Errorf("Open(%d) = %v, %d", minute, got, e)
		}
	}
	for minute, want := range map[int]bool{0: true, last - 1: true, last: false} {
		if got, e := shift.Open(open, minute); got != want || e != api.OK {
			t.Errorf("Open(%d) = %v, %d", minute, got, e)
		}
	}
}

// P12.5
func TestWeek(t *testing.T) {
	for i, x := range []struct {
		c    shift.Calendar
		want int
	}{{shift.Calendar{}, 0}, {usual(), 540}, {always(), 7 * day}, {full(), 64*20 - 32}, {cal(sh(1, 0, 5), sh(1, 5, 9)), 9}} {
		if n, e := shift.Week(x.c); n != x.want || e != api.OK {
			t.Errorf("%d: %d, %d", i, n, e)
		}
	}
}

// P12.5
func TestCommon(t *testing.T) {
	for i, x := range []struct{ a, b, want shift.Calendar }{
		{shift.Calendar{}, usual(), shift.Calendar{Free: []int{7}}},
		{usual(), usual(), usual()},
		{usual(), always(), usual()},
		{cal(sh(1, 0, 5), sh(1, 5, 9), sh(2, 0, 3)), always(), cal(sh(1, 0, 9), sh(2, 0, 3))},
		{cal(sh(1, 0, 5), sh(1, 5, 9)), cal(sh(1, 3, 5), sh(1, 5, 7)), cal(sh(1, 3, 7))},
		{cal(sh(1, 0, 5), sh(1, 6, 9)), always(), cal(sh(1, 0, 5), sh(1, 6, 9))},
		{cal(sh(1, 0, 10), sh(2, 10, 20)), cal(sh(1, 9, 30), sh(2, 0, 11)), cal(sh(1, 9, 10), sh(2, 10, 11))},
		{cal(sh(1, 0, 10)), cal(sh(1, 10, 20)), shift.Calendar{}},
		{cal(sh(1, 0, 10)), cal(sh(2, 0, 10)), shift.Calendar{}},
		{cal(sh(1, 1400, day), sh(2, 0, 5)), always(), cal(sh(1, 1400, day), sh(2, 0, 5))},
		{cal(sh(1, 0, 100)), cal(sh(1, 5, 6), sh(1, 8, 9), sh(1, 99, 200)), cal(sh(1, 5, 6), sh(1, 8, 9), sh(1, 99, 100))},
		{shift.Calendar{Free: []int{1, 5, 9}}, shift.Calendar{Free: []int{0, 5, 10}}, shift.Calendar{Free: []int{0, 1, 5, 9, 10}}},
	} {
		for _, y := range [2][2]shift.Calendar{{x.a, x.b}, {x.b, x.a}} {
			got, e := shift.Common(y[0], y[1])
			if !slices.Equal(got.Shifts, x.want.Shifts) || !slices.Equal(got.Free, x.want.Free) || e != api.OK {
				t.Errorf("%d: %v, %d", i, got, e)
			}
		}
	}
	a := usual()
	got, _ := shift.Common(a, a)
	got.Shifts[0].From, got.Free[0] = 1, 1
	if !reflect.DeepEqual(a, usual()) {
		t.Error("Common shares memory")
	}
}

// P12.5: results that are too long, and the longest ones.
func TestCommonOfMany(t *testing.T) {
	comb := func(shifts, shiftBy, free, freeBy int) shift.Calendar {
		var c shift.Calendar
		for i := range shifts {
			c.Shifts = append(c.Shifts, sh(1, 20*i+shiftBy, 20*i+18+shiftBy))
		}
		for i := range free {
			c.Free = append(c.Free, 2*i+freeBy)
		}
		return c
	}
	for i, x := range []struct {
		a, b         shift.Calendar
		shifts, free int
		e            api.Errno
	}{
		{comb(64, 0, 0, 0), comb(64, 0, 0, 0), 64, 0, api.OK},
		{comb(64, 0, 0, 0), comb(64, 10, 0, 0), 0, 0, api.ErrTooMany},
		{comb(33, 0, 0, 0), comb(32, 10, 0, 0), 64, 0, api.OK},
		{comb(33, 0, 0, 0), comb(33, 10, 0, 0), 0, 0, api.ErrTooMany},
		{comb(0, 0, 64, 0), comb(0, 0, 64, 0), 0, 64, api.OK},
		{comb(0, 0, 32, 0), comb(0, 0, 32, 1), 0, 64, api.OK},
		{comb(0, 0, 32, 0), comb(0, 0, 33, 1), 0, 0, api.ErrTooMany},
	} {
		got, e := shift.Common(x.a, x.b)
		if len(got.Shifts) != x.shifts || len(got.Free) != x.free || e != x.e {
			t.Errorf("%d: %v, %d", i, got, e)
		}
	}
}

// minutes has each minute of work, counted minute by minute: work before it, and how many follow without a break.
type minutes struct {
	before, run []int32
}

func (m minutes) open(t int) bool { return m.run[t] > 0 }

func count(c shift.Calendar) minutes {
	m := minutes{make([]int32, last+1), make([]int32, last+1)}
	for _, s := range c.Shifts {
		for d := s.Weekday - 1; d < last/day; d += 7 {
			if !slices.Contains(c.Free, d) {
				for i := s.From; i < s.To; i++ {
					m.run[d*day+i] = 1
				}
			}
		}
	}
	for i := range last {
		m.before[i+1] = m.before[i] + m.run[i]
	}
	for i := last - 1; i >= 0; i-- {
		if m.run[i] > 0 {
			m.run[i] += m.run[i+1]
		}
	}
	return m
}

// find returns the first minute from a on that satisfies a condition.
func find(a, step int, holds func(t int) bool) (int, api.Errno) {
	for t := a; t >= 0 && t <= last; t += step {
		if holds(t) {
			return t, api.OK
		}
	}
	return 0, api.ErrNone
}

func randomCalendar(r *rand.Rand) shift.Calendar {
	var c shift.Calendar
	for d := 1; d <= 7; d++ {
		at := []int{0, 0, r.Intn(700), day}[r.Intn(4)]
		for at < day && r.Intn(4) > 0 {
			to := min(day, at+1+r.Intn(600))
			c.Shifts = append(c.Shifts, sh(d, at, to))
			at = to + []int{0, r.Intn(200)}[r.Intn(2)]
		}
	}
	for d := r.Intn(9); d < 10000 && len(c.Free) < shift.MaxFree; d += 1 + r.Intn(1<<r.Intn(12)) {
		c.Free = append(c.Free, d)
	}
	return c
}

func compare(t *testing.T, r *rand.Rand, c shift.Calendar, m minutes) {
	t.Helper()
	near := [3]int{0, r.Intn(last), last - 20*day}[r.Intn(3)]
	from := near + r.Intn(20*day)
	from = min(from, last)
	to := min(last, from+r.Intn(1+r.Intn(30*day)))
	work := r.Intn(1 << r.Intn(15))
	if got, e := shift.Open(c, from); got != m.open(from) || e != api.OK {
		t.Fatalf("%v: Open(%d) = %v, %d", c, from, got, e)
	}
	if got, e := shift.Work(c, from, to); got != int(m.before[to]-m.before[from]) || e != api.OK {
		t.Fatalf("%v: Work(%d, %d) = %d, %d", c, from, to, got, e)
	}
	want, f := find(from, 1, m.open)
	if got, e := shift.Next(c, from); got != want || e != f {
		t.Fatalf("%v: Next(%d) = %d, %d, want %d", c, from, got, e, want)
	}
	want, f = find(from, 1, func(t int) bool { return int(m.before[t]-m.before[from]) == work })
	if got, e := shift.After(c, from, work); got != want || e != f {
		t.Fatalf("%v: After(%d, %d) = %d, %d, want %d", c, from, work, got, e, want)
	}
	want, f = find(from, -1, func(t int) bool { return int(m.before[from]-m.before[t]) == work })
	if got, e := shift.Before(c, from, work); got != want || e != f {
		t.Fatalf("%v: Before(%d, %d) = %d, %d, want %d", c, from, work, got, e, want)
	}
	want, f = find(from, 1, func(t int) bool { return m.open(t) && int(m.run[t]) >= work })
	if got, e := shift.Whole(c, from, work); got != want || e != f {
		t.Fatalf("%v: Whole(%d, %d) = %d, %d, want %d", c, from, work, got, e, want)
	}
}

// P12.1 to P12.6: against counting minute by minute.
func TestAgainstMinutes(t *testing.T) {
	r := rand.New(rand.NewSource(12))
	for i := range 8 {
		c := randomCalendar(r)
		if i == 0 {
			c = always()
			c.Free = []int{3, 4, 9990, 9999}
		}
		if e := shift.Check(c); e != api.OK {
			t.Fatalf("%v: %d", c, e)
		}
		m := count(c)
		for range 150 {
			compare(t, r, c, m)
		}
		// A week without free days has the minutes of a week.
		week, _ := shift.Week(c)
		free := slices.ContainsFunc(c.Free, func(d int) bool { return d/7 == 700 })
		if got := int(m.before[701*7*day] - m.before[700*7*day]); !free && got != week {
			t.Fatalf("%v: Week %d, want %d", c, week, got)
		}
	}
}

// P12.5, P12.6: the minutes of the common calendar are those of both, with the fewest shifts.
func TestCommonAgainstMinutes(t *testing.T) {
	r := rand.New(rand.NewSource(13))
	for range 300 {
		a, b := randomCalendar(r), randomCalendar(r)
		if len(a.Free)+len(b.Free) > shift.MaxFree {
			a.Free, b.Free = a.Free[:min(32, len(a.Free))], b.Free[:min(32, len(b.Free))]
		}
		got, e := shift.Common(a, b)
		if e != api.OK || shift.Check(got) != api.OK {
			t.Fatalf("%v, %v: %d", a, b, e)
		}
		back, _ := shift.Common(b, a)
		if !reflect.DeepEqual(got, back) {
			t.Fatalf("%v, %v: %v, but %v", a, b, got, back)
		}
		if again, _ := shift.Common(got, got); !slices.Equal(again.Shifts, got.Shifts) || !slices.Equal(again.Free, got.Free) {
			t.Fatalf("%v: with itself %v", got, again)
		}
		runs := 0
		for minute := range 7 * day {
			in := func(c shift.Calendar, m int) bool {
				return slices.ContainsFunc(c.Shifts, func(s api.Shift) bool { return s.Weekday == m/day+1 && s.From <= m%day && m%day < s.To })
			}
			both := in(a, minute) && in(b, minute)
			if both != in(got, minute) {
				t.Fatalf("%v, %v: %v at %d", a, b, got, minute)
			}
			if both && (minute%day == 0 || !in(a, minute-1) || !in(b, minute-1)) {
				runs++
			}
		}
		if len(got.Shifts) != runs {
			t.Fatalf("%v, %v: %v has more than %d shifts", a, b, got, runs)
		}
	}
}
