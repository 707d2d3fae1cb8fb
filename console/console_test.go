package console_test

import (
	"math/rand"
	"reflect"
	"slices"
	"strconv"
	"strings"
	"testing"

	"gangsaw/api"
	"gangsaw/console"
	"gangsaw/journal"
	"gangsaw/yard"
)

const session = "free b 0 0 0 100 10 10\ncut b l r 0 40 8\nfind r\nassign l s\nitems"

// P60.1, P60.2: the examples.
func TestExamples(t *testing.T) {
	c := console.New()
	if got := c.Run(session); got != "ok\nok\nr whole 48 0 0 to 100 10 10 from b\nok\nb divided\nl assigned\nr whole" {
		t.Errorf("Run = %q", got)
	}
	for i, x := range []struct{ line, want string }{
		{"totals", "freed 10000 whole 5200 assigned 4000 set 0 broken 0 kerfs 800"}, {"stone s", "l"}, {"path r", "b r"}, {"find l", "l assigned 0 0 0 to 40 10 10 from b for s"}, {"find b", "b divided 0 0 0 to 100 10 10"}, {"undo", "undone assign l s"},
		{`query select(where(items, state = "whole"), id, x)`, "id x\n\"l\" 40\n\"r\" 52"}, {"query items", "id parent state stone x y z\n\"b\" \"\" \"divided\" \"\" 100 10 10\n\"l\" \"b\" \"whole\" \"\" 40 10 10\n\"r\" \"b\" \"whole\" \"\" 52 10 10"},
		{"query count(where(items, x > 1000))", "count"}, {"query   count( items )  # all", "count\n3"},
		{"head", journal.Chain([]string{"free b 0 0 0 100 10 10", "cut b l r 0 40 8"})}, {"", ""}, {"# fly", ""}, {"#", ""},
		{"assign r t", "ok"}, {"set r", "ok"}, {"break l", "ok"}, {"items", "b divided\nl broken\nr set"}, {"query select(items, stone)", "stone\n\"\"\n\"t\""}, {"totals", "freed 10000 whole 0 assigned 0 set 5200 broken 4000 kerfs 800"},
	} {
		if got, e := c.Do(x.line); got != x.want || e != api.OK {
			t.Errorf("line %d: %q, %d", i, got, e)
		}
	}
	if got := console.New().Run("cut b\nfly\n\n# x\nitems\nhead"); got != "error 1\nerror 2\nnone\n0000000000000000" {
		t.Errorf("Run = %q", got)
	}
	for _, text := range []string{"", "\n\n", "#", "\n# a\n"} {
		if got := console.New().Run(text); got != "" {
			t.Errorf("Run(%q) = %q", text, got)
		}
	}
}

// P60.1, P1: each error, and which one comes first; a line with an error changes nothing.
func TestErrors(t *testing.T) {
	c := console.New()
	if got, e := c.Do("undo"); got != "" || e != api.ErrNone {
		t.Errorf("Do = %q, %d", got, e)
	}
	c.Run(session)
	before, facts := c.Run("items\ntotals\nhead"), c.Facts()
	for line, want := range map[string]api.Errno{
		"fly": api.ErrSyntax, " items": api.ErrSyntax, " ": api.ErrSyntax, " #": api.ErrSyntax, "Items": api.ErrSyntax, "items\t": api.ErrSyntax, "free\tx": api.ErrSyntax,
		"free x  0 0 0 1 1 1": api.ErrSyntax, "free x 0 0 0 1 1 1 ": api.ErrSyntax, "free X 0 0 20 1 1 21": api.ErrSyntax, "free ": api.ErrSyntax, "set 1 a": api.ErrSyntax, "set l#": api.ErrSyntax, "break 01": api.ErrSyntax,
		"items ": api.ErrSyntax, "items x": api.ErrSyntax, "totals x": api.ErrSyntax, "undo ": api.ErrSyntax, "undo 2": api.ErrSyntax, "head x": api.ErrSyntax, "find": api.ErrSyntax, "find l r": api.ErrSyntax, "find  l": api.ErrSyntax, "find l ": api.ErrSyntax, "stone": api.ErrSyntax, "stone s s": api.ErrSyntax, "path": api.ErrSyntax, "path a b": api.ErrSyntax, "query": api.ErrSyntax,
		"free": api.ErrInvalid, "free x": api.ErrInvalid, "set": api.ErrInvalid, "set l 5": api.ErrInvalid, "free x 0 0 0 1 1 1": api.ErrOverlap, "free b 0 0 0 1 1 1": api.ErrDuplicate, "cut x l r 0 1 1": api.ErrUnknown, "set r": api.ErrState, "release b": api.ErrState, "assign r s": api.ErrDuplicate,
		"find x": api.ErrUnknown, "find ": api.ErrUnknown, "find L": api.ErrUnknown, "stone x": api.ErrNone, "stone ": api.ErrNone, "stone l": api.ErrNone, "path x": api.ErrUnknown, "path ": api.ErrUnknown,
		"query ": api.ErrSyntax, "query where(items": api.ErrSyntax, "query Items": api.ErrName, "query " + strings.Repeat("a", 1001): api.ErrTooMany, "query cuts": api.ErrUnknown, "query select(items, mass)": api.ErrUnknown, "query select(items, x, x)": api.ErrDuplicate, "query union(items, select(items, x))": api.ErrConflict, "query join(select(items, id), items": api.ErrSyntax,
	} {
		if got, e := c.Do(line); got != "" || e != want {
			t.Errorf("Do(%q) = %q, %d, want %d", line, got, e, want)
		}
		if got := c.Run(line); got != "error "+strconv.Itoa(int(want)) {
			t.Errorf("Run(%q) = %q", line, got)
		}
	}
	if now := c.Run("items\ntotals\nhead"); now != before || !reflect.DeepEqual(c.Facts(), facts) {
		t.Errorf("something is changed: %q", now)
	}
}

// P60.3
func TestHelp(t *testing.T) {
	want := []string{"assign", "break", "cut", "find", "free", "head", "items", "path", "query", "release", "set", "stone", "totals", "undo"}
	if got := console.Words(); !slices.Equal(got, want) {
		t.Errorf("Words = %v", got)
	}
	for i, text := range []string{"assign ID STONE", "break ID", "cut ID FIRST SECOND AXIS AT KERF", "find ID", "free ID X Y Z X Y Z", "head", "items", "path ID", "query TEXT", "release ID", "set ID", "stone NAME", "totals", "undo"} {
		if got, e := console.Help(want[i]); got != text || e != api.OK {
			t.Errorf("Help(%q) = %q, %d", want[i], got, e)
		}
	}
	for _, word := range []string{"", "fly", "Items", "items "} {
		if got, e := console.Help(word); got != "" || e != api.ErrUnknown {
			t.Errorf("Help(%q) = %q, %d", word, got, e)
		}
	}
}

// P60.1, P1: consoles that New did not make.
func TestOdd(t *testing.T) {
	var none *console.Console
	if got := none.Run("free b 0 0 0 1 1 1\nitems\nundo\ntotals\nhead\nfind b\nstone s\nquery items"); got != "error 8\nnone\nerror 9\nfreed 0 whole 0 assigned 0 set 0 broken 0 kerfs 0\n0000000000000000\nerror 3\nerror 9\nid parent state stone x y z" || len(none.Facts()) != 0 {
		t.Errorf("Run = %q", got)
	}
	var zero console.Console
	if got := zero.Run("free b 0 0 0 1 1 1\nitems"); got != "ok\nb whole" || len(zero.Facts()) != 1 {
		t.Errorf("Run = %q", got)
	}
	zero.Facts()[0].Names[0] = "q"
	if zero.Facts()[0].Names[0] != "b" {
		t.Error("Facts shares memory with the console")
	}
}

func random(r *rand.Rand) string {
	id := func() string { return "i" + strconv.Itoa(r.Intn(9)) }
	n := func(most int) string { return strconv.Itoa(r.Intn(most)) }
	return []string{
		"free " + id() + " " + strings.Join([]string{n(9), n(9), n(9), n(20), n(20), n(20)}, " "), "cut " + id() + " " + id() + " " + id() + " " + n(3) + " " + n(20) + " " + n(3), "assign " + id() + " s" + n(4), "release " + id(), "set " + id(), "break " + id(),
		"items", "find " + id(), "stone s" + n(4), "path " + id(), "totals", "head", "undo", "query count(items, state)", "# comment", "", "fly",
	}[r.Intn(17)]
}

// P60.4
func TestProperties(t *testing.T) {
	r := rand.New(rand.NewSource(1))
	for range 300 {
		c := console.New()
		var lines, outputs []string
		for range 40 {
			line := random(r)
			before := c.Run("items\ntotals\nhead")
			count := len(c.Facts())
			output := c.Run(line)
			lines = append(lines, line)
			if output != "" {
				outputs = append(outputs, output)
			}
			after := c.Run("items\ntotals\nhead")
			isFact := output == "ok"
			if isUndo := strings.HasPrefix(output, "undone "); !isFact && !isUndo && after != before {
				t.Fatalf("%q changes something", line)
			}
			if isFact {
				if got := c.Run("undo"); got != "undone "+line || c.Run("items\ntotals\nhead") != before || len(c.Facts()) != count {
					t.Fatalf("undo behind %q: %q", line, got)
				}
				if got := c.Run(line); got != "ok" || c.Run("items\ntotals\nhead") != after {
					t.Fatalf("%q again: %q", line, got)
				}
			}
			y, i := yard.Replay(c.Facts())
			if i != -1 || len(y.Items()) != strings.Count("\n"+c.Run("items"), "\n")-strings.Count(c.Run("items"), "none") {
				t.Fatalf("Replay of %v: %d", c.Facts(), i)
			}
		}
		checkRuns(t, lines, outputs, c)
	}
}

// checkRuns runs all lines at once, in two texts, and the records of the facts.
func checkRuns(t *testing.T, lines, outputs []string, c *console.Console) {
	state := c.Run("items\ntotals\nhead")
	whole, parts, records := console.New(), console.New(), console.New()
	half := len(lines) / 2
	first, second := parts.Run(strings.Join(lines[:half], "\n")), parts.Run(strings.Join(lines[half:], "\n"))
	both := strings.Trim(first+"\n"+second, "\n")
	if got := whole.Run(strings.Join(lines, "\n")); got != strings.Join(outputs, "\n") || got != both || whole.Run("items\ntotals\nhead") != state || parts.Run("items\ntotals\nhead") != state {
		t.Fatalf("Run of %q = %q, want %q", lines, got, outputs)
	}
	for _, f := range c.Facts() {
		record, _ := yard.Encode(f)
		if got := records.Run(record); got != "ok" {
			t.Fatalf("%q: %q", record, got)
		}
	}
	if records.Run("items\ntotals\nhead") != state {
		t.Fatalf("the records of %v make another yard", c.Facts())
	}
}
