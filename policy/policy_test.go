package policy

import (
	"math"
	"slices"
	"testing"

	"hibernacle/api"
	"hibernacle/day"
)

func at(t *testing.T, s string) int64 {
	t.Helper()
	m, ok := day.Of(s)
	if !ok {
		t.Fatal(s)
	}
	return m
}

func refs(t *testing.T, times ...string) []api.Ref {
	var l []api.Ref
	for i, s := range times {
		l = append(l, api.Ref{Machine: "m", N: i + 1, At: at(t, s)})
	}
	return l
}

// P49.1
func TestCheck(t *testing.T) {
	for p, want := range map[api.Policy]api.Errno{{Days: 1}: 0, {Days: 1000, Weeks: 1000, Months: 1000, Years: 1000}: 0, {}: api.ErrArg, {Days: -1}: api.ErrRange, {Years: 1001}: api.ErrRange, {Weeks: math.MinInt}: api.ErrRange, {Months: -1, Days: 5}: api.ErrRange} {
		if e := Check(p); e != want {
			t.Error(p, e)
		}
		if s := Text(p); (s == "") != (want != 0) {
			t.Error(p, s)
		}
	}
}

// P49.2
func TestKeep(t *testing.T) {
	l := refs(t, "2026-11-16 12:00", "2026-11-16 20:00", "2026-11-17 09:00", "2026-11-20 09:00")
	for i, c := range []struct {
		p    api.Policy
		want []bool
	}{
		{api.Policy{Days: 2}, []bool{false, false, true, true}}, {api.Policy{Days: 3}, []bool{false, true, true, true}}, {api.Policy{Days: 99}, []bool{false, true, true, true}}, {api.Policy{Weeks: 1}, []bool{false, false, false, true}}, {api.Policy{Weeks: 5}, []bool{false, false, false, true}},
		{api.Policy{}, []bool{true, true, true, true}}, {api.Policy{Days: 2, Years: 1001}, []bool{true, true, true, true}}, {api.Policy{Years: 1}, []bool{false, false, false, true}},
	} {
		if got := Keep(c.p, l, 0); !slices.Equal(got, c.want) {
			t.Error(i, got)
		}
	}
	years := refs(t, "2024-12-31 00:00", "2025-01-31 00:00", "2025-02-01 00:00", "2025-12-29 00:00", "2026-01-04 00:00", "2026-01-05 00:00")
	for i, c := range []struct {
		p    api.Policy
		want []bool
	}{
		{api.Policy{Years: 2}, []bool{false, false, false, true, false, true}}, {api.Policy{Weeks: 2}, []bool{false, false, false, false, true, true}}, {api.Policy{Months: 3}, []bool{false, false, true, true, false, true}}, {api.Policy{Months: 4, Weeks: 2}, []bool{false, true, true, true, true, true}},
	} {
		if got := Keep(c.p, years, 0); !slices.Equal(got, c.want) {
			t.Error(i, got)
		}
	}
	if Keep(api.Policy{Days: 1}, nil, 0) == nil && len(Keep(api.Policy{}, nil, 0)) != 0 {
		t.Error("none")
	}
}

// P49.2: the later one, and what is held.
func TestHeldAlike(t *testing.T) {
	l := []api.Ref{{Machine: "m", N: 2, At: 5}, {Machine: "m", N: 1, At: 5}, {Machine: "m", N: 9, At: 4}, {Machine: "m", N: 2, At: 5, Name: "again"}, {Machine: "m", N: 3, At: 1, Until: 10}}
	if got := Keep(api.Policy{Weeks: 3}, l, 9); !slices.Equal(got, []bool{true, false, false, true, true}) {
		t.Error(got)
	}
	if got := Keep(api.Policy{Weeks: 3}, l, 10); !slices.Equal(got, []bool{true, false, false, true, false}) {
		t.Error(got)
	}
	far := []api.Ref{{At: math.MinInt64, N: 1}, {At: math.MaxInt64, N: -5}}
	if got := Keep(api.Policy{Days: 1}, far, 0); !slices.Equal(got, []bool{false, true}) {
		t.Error(got)
	}
}

// P49.3
func TestText(t *testing.T) {
	if Text(api.Policy{Days: 7}) != "7d 0w 0m 0y" {
		t.Error(Text(api.Policy{Days: 7}))
	}
	for _, p := range []api.Policy{{Days: 1}, {Years: 1000}, {Days: 1, Weeks: 2, Months: 3, Years: 4}} {
		if got, e := Of(Text(p)); e != api.OK || got != p {
			t.Error(p, e)
		}
	}
	for _, s := range []string{"", "0d 0w 0m 0y", "1d 0w 0m", "1d 0w 0m 0y ", "1d  0w 0m 0y", "01d 0w 0m 0y", "1001d 0w 0m 0y", "-1d 0w 0m 0y", "1w 0d 0m 0y", "1D 0w 0m 0y", "d 0w 0m 0y", "1d 0w 0m 99999999999999999999y"} {
		if p, e := Of(s); e != api.ErrForm || p != (api.Policy{}) {
			t.Error(s, e)
		}
	}
}

// P49.4
func TestFollows(t *testing.T) {
	x := uint32(3)
	next := func(n int) int {
		x = x*1664525 + 1013904223
		return int(x>>10) % n
	}
	for range 300 {
		var l []api.Ref
		for i := range 1 + next(25) {
			l = append(l, api.Ref{Machine: string(rune('a' + next(2))), N: i, At: int64(next(900000)), Until: int64(next(3) * 100)})
		}
		p := api.Policy{Days: next(4), Weeks: next(4), Months: next(4), Years: 1 + next(3)}
		kept := Keep(p, l, 100)
		// The latest one of a machine is kept.
		for i := range l {
			isLatest := !slices.ContainsFunc(l, func(y api.Ref) bool { return y.Machine == l[i].Machine && later(y, l[i]) < 0 })
			if isLatest && !kept[i] {
				t.Fatal("the latest one goes")
			}
		}
		// Greater numbers keep no fewer; the order, and other machines, play no part.
		more := Keep(api.Policy{Days: p.Days + next(2), Weeks: p.Weeks + next(2), Months: p.Months + next(2), Years: p.Years}, l, 100)
		turned := slices.Clone(l)
		slices.Reverse(turned)
		back := Keep(p, turned, 100)
		slices.Reverse(back)
		var own []api.Ref
		var ownKept []bool
		for i, y := range l {
			if kept[i] && !more[i] {
				t.Fatal("fewer are kept")
			}
			if y.Machine == "a" {
				own, ownKept = append(own, y), append(ownKept, kept[i])
			}
		}
		if !slices.Equal(back, kept) || !slices.Equal(Keep(p, own, 100), ownKept) {
			t.Fatal("the order, or other machines, play a part")
		}
		// With one that is later than all, what wasn't kept isn't either.
		then := Keep(p, append(slices.Clone(l), api.Ref{Machine: "a", N: 99, At: 900000}), 100)
		for i, y := range l {
			if !kept[i] && then[i] && y.Until <= 100 {
				t.Fatal("it is kept again")
			}
		}
	}
}
