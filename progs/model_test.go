package progs

import (
	"strconv"
	"strings"
	"testing"
)

// line is what counts of a line.
func line(s string) string { return s[:min(len(s), 31)] }

func modelKv(in string) string {
	table := map[byte]byte{}
	out := ""
	letter := func(c byte) bool { return c >= 'a' && c <= 'z' }
	for _, s := range parted(in) {
		switch {
		case len(s) == 5 && s[0] == 'p' && s[1] == ' ' && s[3] == ' ' && letter(s[2]) && letter(s[4]):
			table[s[2]] = s[4]
			out += "ok\n"
		case len(s) == 3 && s[0] == 'g' && s[1] == ' ' && letter(s[2]):
			if table[s[2]] == 0 {
				out += "-\n"
			} else {
				out += string(rune(table[s[2]])) + "\n"
			}
		default:
			out += "?\n"
		}
	}
	return out
}

func modelBank(in string) string {
	var all [8]int
	for i := range all {
		all[i] = 100
	}
	account := func(s string) (int, bool) {
		return int(s[0]) - '0', len(s) == 1 && s[0] >= '0' && s[0] <= '7'
	}
	out := ""
	for _, s := range parted(in) {
		w := strings.Split(s, " ")
		answer := "?"
		switch {
		case s == "s":
			sum := 0
			for _, n := range all {
				sum += n
			}
			answer = strconv.Itoa(sum)
		case s == "y":
			answer = "ok"
		case len(w) == 2 && w[0] == "b" && w[1] != "":
			if a, ok := account(w[1]); ok {
				answer = strconv.Itoa(all[a])
			}
		case len(w) == 4 && w[0] == "m" && w[1] != "" && w[2] != "" && len(w[3]) >= 1 && len(w[3]) <= 4 && strings.Trim(w[3], "0123456789") == "":
			a, ok := account(w[1])
			b, is := account(w[2])
			n, _ := strconv.Atoi(w[3])
			if ok && is && all[a] >= n {
				all[a] -= n
				all[b] += n
				answer = "ok"
			} else if ok && is {
				answer = "no"
			}
		}
		out += answer + "\n"
	}
	return out
}

func parted(in string) []string {
	l := strings.Split(in, "\n")
	if l[len(l)-1] == "" {
		l = l[:len(l)-1]
	}
	for i := range l {
		l[i] = line(l[i])
	}
	return l
}

// P31.1: held against what the table says, with lines of all kinds.
func TestModels(t *testing.T) {
	x := uint32(17)
	next := func(n int) int {
		x = x*1664525 + 1013904223
		return int(x>>12) % n
	}
	pick := func(signs string) string { i := next(len(signs)); return signs[i : i+1] }
	for range 25 {
		kv, bank := "", ""
		for range 30 {
			switch next(6) {
			case 0:
				kv += pick("gpx ") + pick(" _") + pick("abz{`") + pick(" \n") + pick("abz") + "\n"
				bank += pick("mbsyx ") + pick(" \n") + pick("0789/") + pick(" \n")
			case 1:
				kv += "g " + pick("abz") + "\n"
				bank += "b " + pick("01278") + "\n"
			case 2:
				kv += strings.Repeat(pick("gx"), next(70)) + "\n"
				bank += "m " + pick("0127") + " " + pick("0127") + " " + strings.Repeat(pick("019"), next(6)) + "\n"
			default:
				kv += "p " + pick("abz") + " " + pick("abcz") + "\n"
				bank += "m " + pick("0127") + " " + pick("0127") + " " + strconv.Itoa(next(150)) + "\n"
			}
		}
		if next(2) == 0 {
			kv, bank = kv+"g a", bank+"s"
		}
		if got, _ := plays(t, boots(t, "kv", 16, 1+next(9)), kv); got != modelKv(kv) {
			t.Errorf("%q: %q", kv, got)
		}
		if got, _ := plays(t, boots(t, "bank", 16, 1+next(9)), bank); got != modelBank(bank) {
			t.Errorf("%q: %q, not %q", bank, got, modelBank(bank))
		}
	}
}
