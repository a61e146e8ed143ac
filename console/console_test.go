package console

import (
	"strconv"
	"strings"
	"testing"

	"hibernacle/api"
	"hibernacle/progs"
)

// echo is a program's text, as a line has it: it reads 8 bytes and writes them, again and again.
const echo = `start:\nli r1, 0\naddi r2, r0, buf\nli r3, 8\nsys 1\nbeq r1, r0, end\naddi r3, r1, 0\nli r1, 1\naddi r2, r0, buf\nsys 2\njal r0, start\nend:\nsys 0\nroom buf 8`

func scripted(lines ...string) string { return strings.Join(lines, "\n") + "\n" }

// plays tells whether a script answers so, line by line.
func plays(t *testing.T, lines []string, want ...string) {
	t.Helper()
	got := strings.Split(Run(scripted(lines...)), "\n")
	if got[len(got)-1] != "" {
		t.Error("the last line doesn't end")
	}
	got = got[:len(got)-1]
	for i := range max(len(got), len(want)) {
		if i >= len(got) || i >= len(want) || got[i] != want[i] {
			t.Errorf("%d: %.120q, not %.120q", i, at(got, i), at(want, i))
		}
	}
}

func at(l []string, i int) string {
	if i < len(l) {
		return l[i]
	}
	return "<none>"
}

var booted = []string{"volume 28 8", "prog /e " + echo, "boot 4 5 /e"}

var stored = append(append([]string{}, booted...), "feed hi", "store k 10 2d 0w 0m 0y", "admit m k")

func with(begin []string, more ...string) []string {
	return append(append([]string{}, begin...), more...)
}

func oks(n int, more ...string) []string {
	var l []string
	for range n {
		l = append(l, "ok")
	}
	return append(l, more...)
}

// The ten examples of the whole.
func TestExamples(t *testing.T) {
	plays(t, with(booted, "feed hi", "run 100"), oks(4, "told hi")...)
	begin := with(stored, "start 4", "go 200")
	plays(t, begin, oks(7, "went 0 1 hi")...)
	plays(t, with(begin, "lose 0 4", "restore m 1", "state"), oks(7, "went 0 1 hi", "ok", "ok", "state 0 1 1 0")...)
	plays(t, with(begin, "restore m 1", "tape 60", "rehearse m 1"), oks(7, "went 0 1 hi", "ok", "taped 60", "alike 60")...)
	plays(t, with(begin, "tape 60", "rehearse m 1"), oks(7, "went 0 1 hi", "taped 60", "other at 0 why 23")...)
	lost := Run(scripted(with(begin, "lose 0 4", "lose 1", "restore m 1", "state")...))
	if !strings.Contains(lost, "fail ") || !strings.HasSuffix(lost, "state 200 1 1 2\n") {
		t.Errorf("%q", lost)
	}
	plays(t, with(begin, "lose 0 4", "scrub", "lose 1", "restore m 1"), oks(7, "went 0 1 hi", "ok", "lost 0", "ok", "ok")...)
	plays(t, with(begin, "rotate z", "open 1 2 3", "restore m 1"), oks(7, "went 0 1 hi", "ok", "ok", "ok")...)
	plays(t, with(booted, "run 9", "power", "state", "ls"), oks(3, "told ", "ok", "state 0 1 1 0", "/e")...)
	plays(t, with(booted, "resize 60 16", "ls", "state"), oks(4, "/e", "state 0 1 1 0")...)
	plays(t, with(begin, "start 9", "go 200", "snaps", "tick 2000", "collect", "snaps"), oks(7, "went 0 1 hi", "ok", "went 0 2 ", "snap m 1 10 0", "snap m 2 10 0", "ok", "cleared 1", "snap m 2 10 0")...)
}

// P58.1
func TestMachine(t *testing.T) {
	plays(t, []string{"volume 24 8", `file /a x\ny`, "ls"}, "ok", "ok", "error")
	plays(t, with([]string{"volume 60 8", "prog /e " + echo, `file /a x\n\\y  z`, "file /b ", "file /a x", "file a x", "boot 8 5 /e"}, "ls", "cat /a", "cat /b", "cat /none", "cat /", "feed hello", "end", "end", "feed x", "run 0", "run 400", "state", "ls"),
		"ok", "ok", "ok", "ok", "fail 8", "fail 7", "ok", "/a", "/b", "/e", `text x\n\\y  z`, "text ", "fail 9", "fail 11", "ok", "ok", "fail 14", "fail 14", "told ", "told hello", "state 400 0 8 5", "/a", "/b", "/e")
	plays(t, []string{"volume 10 8", "volume 60 8", "prog /e sys", "prog /e text a \"x\"", "file /x hibz", "boot 8 5 /x", "boot 0 5 /x", "boot 8 5 /none"}, "fail 2", "ok", "fail 3", "fail 1", "ok", "fail 3", "fail 1", "fail 9")
	plays(t, with(booted, "power 5 0 1000000000000", "resize 10 10", "resize 16 8", "resize 223 64", "ls"), oks(4, "fail 2", "ok", "ok", "/e")...)
	plays(t, with(booted, `feed a\nb\\c`, "run 300"), oks(4, `told a\nb\\c`)...)
}

// P58.1: of the vault.
func TestVault(t *testing.T) {
	plays(t, with(booted, "store k 10 0d 0w 0m 0y", "store k 10 2d", "tick 5", "store k 10 1d 0w 0m 0y", "tick 9", "tick 10", "tick 11", "admit M k", "start 4", "admit m k", "admit m k", "go 1", "hold m 1 5", "snaps", "collect", "scrub", "files m 1", "copy m 1 /e", "restore m 1", "rotate k", "rotate j", "open 1 1 2"),
		oks(3, "fail 3", "fail 3", "error", "ok", "fail 19", "ok", "ok", "fail 7", "error", "ok", "fail 8", "went 0 0 ", "fail 9", "cleared 0", "lost 0", "fail 9", "fail 9", "fail 9", "fail 8", "ok", "fail 1")...)
	begin := with(stored, "start 4", "start 4", "go 200")
	plays(t, with(begin, "hold m 1 10", "hold m 1 500", "hold m 1 499", "snaps", "files m 1", "copy m 1 /e", "copy m 1 /x", "copy m 2 /e", "rehearse m 1", "tape 0", "rehearse m 2"),
		oks(7, "fail 14", "went 0 1 hi", "fail 1", "ok", "fail 20", "snap m 1 10 500", "file 1 "+strconv.Itoa(len(file(t)))+" /e", "text "+telling(file(t)), "fail 9", "fail 9", "error", "taped 0", "lost why 9")...)
	// What a hold keeps stays through all clearing, and behind a new beginning.
	plays(t, with(begin[:7], "go 200", "hold m 1 9999", "start 9", "go 200", "tick 2000", "collect", "open 2 3 5", "snaps", "lose 0 1 2", "open 2 3 5", "snaps"),
		oks(7, "went 0 1 hi", "ok", "ok", "went 0 2 ", "ok", "cleared 0", "ok", "snap m 1 10 9999", "snap m 2 10 0", "ok", "fail 9", "snap m 1 10 9999", "snap m 2 10 0")...)
}

// file is the echo's file.
func file(t *testing.T) string {
	t.Helper()
	s := Run(scripted("volume 60 8", "prog /e "+echo, "boot 8 5 /e", "cat /e"))
	s, ok := strings.CutPrefix(s, "ok\nok\nok\ntext ")
	if !ok {
		t.Fatal(s)
	}
	return textOf(strings.TrimSuffix(s, "\n"))
}

// P58.1, P58.2: lines that aren't as said change nothing.
func TestErrors(t *testing.T) {
	all := stored
	answers := Run(scripted(with(all, "state", "snaps")...))
	for _, line := range []string{
		"", " ", "x", "volume", "volume 24", "volume 24 8 1", "volume  24 8", "volume -1 8", "volume 024 8", "volume 1000000000001 8", "volume x 8", "prog /x", "prog  x", "file /x", `file /x \`, `file /x \t`, "boot 4 5", "boot 4 5 ", "boot 4 5 /e x", "feed", "end x", "end ", "run", "run 401", "run -1", "run 1 1", "power x", "power ", "power 1  2", "state x", "ls x", "cat", "cat ", "cat a b",
		"store", "store k", "store k 1", "store  1 1d 0w 0m 0y", "store k x 1d 0w 0m 0y", "admit m", "admit m ", "admit  k", "start", "start x", "go", "go 401", "tick", "tick x", "hold m 1", "hold m x 1", "hold m 1 x", "lose", "lose 5", "lose 0 5", "lose x", "open 1 2", "open 0 1 2", "open 1 2 6", "open 1 2 3 4", "rotate", "rotate ", "collect x", "scrub x", "snaps x", "files m", "files m x", "copy m 1", "copy m 1 ", "restore m", "restore  1", "resize 60", "resize 60 x", "tape", "tape 401", "rehearse m", "rehearse m 1", "VOLUME 24 8", "volume\t24 8",
	} {
		got := Run(scripted(with(all, line, "state", "snaps")...))
		want := strings.Replace(answers, "state ", "error\nstate ", 1)
		if got != want {
			t.Errorf("%q: %q", line, got)
		}
	}
	for _, line := range []string{"prog /e sys 0", "file /a x", "boot 4 5 /e", "feed x", "end", "run 1", "power", "state", "ls", "cat /e", "admit m k", "start 1", "go 1", "tick 1", "hold m 1 1", "lose 1", "open 1 2 3", "rotate k", "collect", "scrub", "snaps", "files m 1", "copy m 1 /e", "restore m 1", "resize 60 16", "tape 1", "rehearse m 1"} {
		if got := Run(line); got != "error\n" {
			t.Errorf("%q: %q", line, got)
		}
	}
}

// P58.1
func TestSizes(t *testing.T) {
	if Run("") != "" || Run("\n") != "error\n" || Run("x") != "error\n" || Run("x\n") != "error\n" {
		t.Error("few lines")
	}
	if got := Run(strings.Repeat("x\n", 400)); got != strings.Repeat("error\n", 400) {
		t.Error("400 lines")
	}
	if Run(strings.Repeat("x\n", 401)) != "lines\n" || Run(strings.Repeat("x\n", 400)+"y") != "lines\n" {
		t.Error("401 lines")
	}
	if Run(strings.Repeat("x", 65537)) != "long\n" || Run(strings.Repeat("\n", 65537)) != "long\n" || Run(strings.Repeat("x", 65536)) != "error\n" {
		t.Error("bytes")
	}
}

// P58.2: what a line answers doesn't hang on the lines behind it.
func TestFronts(t *testing.T) {
	all := with(stored, "start 4", "go 150", "lose 2", "snaps", "collect", "scrub", "restore m 1", "run 50", "tape 10", "rehearse m 1")
	whole := Run(scripted(all...))
	for i := 1; i < len(all); i++ {
		if got := Run(scripted(all[:i]...)); !strings.HasPrefix(whole, got) {
			t.Error(i)
		}
	}
}

// T5, T27: the bank, backed up over several days, restored, and another size.
func TestBank(t *testing.T) {
	source, _ := progs.Source("bank")
	text := strings.ReplaceAll(strings.ReplaceAll(source, `\`, `\\`), "\n", `\n`)
	begin := []string{"volume 60 16", "prog /bank " + text, "boot 16 7 /bank", `feed m 1 2 30\nb 2\ny\n`, "run 400", "run 400", "store k 10 2d 0w 0m 0y", "admit bank k", "start 4", "go 400"}
	plays(t, with(begin, `feed m 2 3 5\nb 3\n`, "run 400", "run 200", "lose 0 3", "restore bank 1", `feed b 2\ns\n`, "run 400", "resize 100 32", `feed b 2\ns\n`, "run 400", "run 400"),
		"ok", "ok", "ok", "ok", `told ok\n130\n`, `told ok\n`, "ok", "ok", "ok", "went 0 1 ", "ok", `told ok\n105\n`, "told ", "ok", "ok", "ok", `told 130\n800\n`, "ok", "ok", `told 130\n800\n`, "told ")
	if api.MaxLines != 400 {
		t.Error("lines")
	}
}

// P58.1: how much a step takes of a shot; as many steps as may be.
func TestPumped(t *testing.T) {
	plays(t, with(stored, "start 4", "go 16", "go 1", "tape 400", "run 400"), oks(7, "went 1 0 hi", "went 2 0 ", "taped 400", "told ")...)
}
