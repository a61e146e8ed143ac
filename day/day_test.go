package day

import (
	"math"
	"testing"
	"time"
)

var begin = time.Date(2000, 1, 1, 0, 0, 0, 0, time.UTC)

// P48.1: held against the library's calendar.
func TestCalendar(t *testing.T) {
	for d := int64(-750000); d < 3000000; d += 97 {
		minute := d*1440 + (d%1440+1440)%1440
		when := begin.Add(0).AddDate(0, 0, int(d))
		h := (d%1440 + 1440) % 1440
		if Day(minute) != d || Year(minute) != int64(when.Year()) || Month(minute) != int64(when.Year()-2000)*12+int64(when.Month())-1 {
			t.Fatal(d, Year(minute), when)
		}
		if y := when.Year(); y >= 0 && y <= 9999 {
			want := when.Add(time.Duration(h) * time.Minute).Format("2006-01-02 15:04")
			if got := Text(minute); got != want {
				t.Fatal(got, want)
			}
		} else if Text(minute) != "" {
			t.Fatal(when, Text(minute))
		}
		monday := when.AddDate(0, 0, -(int(when.Weekday())+6)%7)
		if days, y := int64(monday.Sub(begin).Hours()/24), when.Year(); y > 1800 && y < 2200 && Week(minute)*7-5 != days {
			t.Fatal(when, Week(minute))
		}
	}
}

// P48.1
func TestExamples(t *testing.T) {
	if Text(0) != "2000-01-01 00:00" || Text(-1) != "1999-12-31 23:59" || Day(-1) != -1 || Day(1440) != 1 || Day(1439) != 0 {
		t.Error("days")
	}
	for s, want := range map[string][4]int64{"2000-01-03 00:00": {2, 1, 0, 2000}, "2000-01-02 23:59": {1, 0, 0, 2000}, "1999-12-27 00:00": {-5, 0, -1, 1999}, "1999-12-26 23:59": {-6, -1, -1, 1999}, "2000-03-01 00:00": {60, 9, 2, 2000}, "0000-02-29 12:00": {-730426, -104346, -23999, 0}} {
		m, ok := Of(s)
		if got := [4]int64{Day(m), Week(m), Month(m), Year(m)}; !ok || got != want {
			t.Error(s, got)
		}
	}
	for _, m := range []int64{math.MinInt64, math.MaxInt64, math.MinInt64 + 1440, math.MaxInt64 - 1440} {
		if Text(m) != "" || (Year(m) < 0) != (m < 0) || (Day(m) < 0) != (m < 0) || (Week(m) < 0) != (m < 0) || (Month(m) < 0) != (m < 0) {
			t.Error(m)
		}
	}
}

// P48.1
func TestOfWrong(t *testing.T) {
	for _, s := range []string{"", "2000-01-01", "2000-01-01 00:0", "2000-01-01 00:00 ", "2000-1-01 000:00", "2000-13-01 00:00", "2000-00-01 00:00", "2000-01-00 00:00", "2001-02-29 00:00", "1900-02-29 00:00", "2000-04-31 00:00", "2000-01-01 24:00", "2000-01-01 00:60", "2000/01/01 00:00", "2000-01-01T00:00", "200 -01-01 00:00", "-200-01-01 00:00", "2000-01-01 0 :00", "２000-01-01 0:0"} {
		if m, ok := Of(s); ok || m != 0 {
			t.Error(s, m)
		}
	}
}

// P48.2
func TestLater(t *testing.T) {
	last := int64(math.MinInt64)
	x := uint32(1)
	for range 5000 {
		x = x*1664525 + 1013904223
		m := last + int64(x)<<19
		if m < last {
			break
		}
		if last > math.MinInt64 && (Day(m) < Day(last) || Week(m) < Week(last) || Month(m) < Month(last) || Year(m) < Year(last)) {
			t.Fatal(last, m)
		}
		if Week(m+7*1440) != Week(m)+1 {
			t.Fatal(m)
		}
		last = m
	}
}

// P48.3
func TestThereAndBack(t *testing.T) {
	first, ok := Of("0000-01-01 00:00")
	end, ok2 := Of("9999-12-31 23:59")
	if !ok || !ok2 || Text(first-1) != "" || Text(end+1) != "" {
		t.Fatal(first, end)
	}
	before := ""
	for m := first; m <= end; m += 777777 {
		s := Text(m)
		if back, ok := Of(s); !ok || back != m || s <= before {
			t.Fatal(m, s)
		}
		before = s
	}
}
