package printer_test

import (
	"math/rand"
	"slices"
	"strings"
	"testing"

	"gangsaw/api"
	"gangsaw/printer"
)

// edits reads a short notation: =a keeps, -a deletes, +a inserts.
func edits(s string) []printer.Edit {
	var list []printer.Edit
	for _, x := range strings.Fields(s) {
		list = append(list, printer.Edit{Kind: strings.Index("=-+", x[:1]), Text: x[1:]})
	}
	return list
}

// P11.4
func TestDiff(t *testing.T) {
	for _, c := range []struct{ old, now, want string }{
		{"", "", ""},
		{"a", "", "-a"},
		{"", "a b", "+a +b"},
		{"a b", "a b", "=a =b"},
		{"a", "b", "-a +b"},
		{"a b c", "b c d", "-a =b =c +d"},
		{"a b", "b a", "-a =b +a"},
		{"a b", "c d", "-a -b +c +d"},
		{"a b c", "x b y", "-a +x =b -c +y"},
		{"b a c", "a b c", "-b =a +b =c"},
		{"x a a", "a a", "-x =a =a"},
		{"a a x", "a a", "=a =a -x"},
		{"c a b", "a b c", "-c =a =b +c"},
		{"a b c", "c a b", "+c =a =b -c"},
		{"a", "b a", "+b =a"},
		{"a b a c", "b c a", "-a =b -a =c +a"},
	} {
		old, now := strings.Fields(c.old), strings.Fields(c.now)
		got, e := printer.Diff(old, now)
		if !slices.Equal(got, edits(c.want)) || e != api.OK {
			t.Errorf("Diff(%q, %q) = %v, %d, want %q", c.old, c.now, got, e, c.want)
		}
		if rows, e := printer.Apply(old, got); !slices.Equal(rows, now) || e != api.OK {
			t.Errorf("Apply(%q, %v) = %q, %d", c.old, got, rows, e)
		}
	}
	odd := []string{"", " ", "\n", "\xff", ""}
	if got, e := printer.Diff(odd, odd[1:]); !slices.Equal(got, []printer.Edit{{printer.Delete, ""}, {printer.Keep, " "}, {printer.Keep, "\n"}, {printer.Keep, "\xff"}, {printer.Keep, ""}}) || e != api.OK {
		t.Errorf("Diff: %v, %d", got, e)
	}
}

// P11.4, P1
func TestDiffOfManyRows(t *testing.T) {
	a, b := slices.Repeat([]string{"a"}, 500), slices.Repeat([]string{"b"}, 500)
	got, e := printer.Diff(a, b)
	if e != api.OK || len(got) != 1000 || got[499] != (printer.Edit{Kind: printer.Delete, Text: "a"}) || got[500] != (printer.Edit{Kind: printer.Insert, Text: "b"}) {
		t.Errorf("Diff: %d edits, %d", len(got), e)
	}
	long := slices.Repeat([]string{"a"}, 501)
	for _, c := range [][2][]string{{long, nil}, {nil, long}, {long, long}, {a, long}} {
		if got, e := printer.Diff(c[0], c[1]); got != nil || e != api.ErrTooMany {
			t.Errorf("Diff: %d edits, %d", len(got), e)
		}
	}
	all := make([]printer.Edit, 0, 2000)
	for range 2000 {
		all = append(all, printer.Edit{Kind: printer.Insert, Text: "x"})
	}
	if rows, e := printer.Apply(nil, all); len(rows) != 2000 || e != api.OK {
		t.Errorf("Apply: %d rows, %d", len(rows), e)
	}
}

// P11.4
func TestApply(t *testing.T) {
	for _, c := range []struct {
		old   string
		edits []printer.Edit
		want  string
		e     api.Errno
	}{
		{"", nil, "", api.OK},
		{"a b", edits("=a +x -b +y"), "a x y", api.OK},
		{"a", edits("=b"), "", api.ErrConflict},
		{"a", edits("-b"), "", api.ErrConflict},
		{"a", edits("+b"), "", api.ErrConflict},
		{"a", nil, "", api.ErrConflict},
		{"", edits("=a"), "", api.ErrConflict},
		{"", edits("-a"), "", api.ErrConflict},
		{"a b", edits("=a"), "", api.ErrConflict},
		{"a b", edits("-b =a"), "", api.ErrConflict},
		{"a", edits("=a =a"), "", api.ErrConflict},
		{"a", []printer.Edit{{Kind: 3, Text: "a"}}, "", api.ErrInvalid},
		{"a", []printer.Edit{{Kind: -1, Text: "a"}}, "", api.ErrInvalid},
		{"a", append(edits("=b"), printer.Edit{Kind: 1 << 40}), "", api.ErrInvalid},
	} {
		rows, e := printer.Apply(strings.Fields(c.old), c.edits)
		if !slices.Equal(rows, strings.Fields(c.want)) || e != c.e {
			t.Errorf("Apply(%q, %v) = %q, %d", c.old, c.edits, rows, e)
		}
	}
	old := []string{"a", "b"}
	rows, _ := printer.Apply(old, edits("=a =b"))
	rows[0] = "x"
	if old[0] != "a" {
		t.Error("Apply shares memory")
	}
}

// P11.4
func TestInvert(t *testing.T) {
	list := append(edits("=a -b +c -d"), printer.Edit{Kind: 7, Text: "e"}, printer.Edit{Kind: -1})
	want := append(edits("=a +b -c +d"), printer.Edit{Kind: 7, Text: "e"}, printer.Edit{Kind: -1})
	got := printer.Invert(list)
	if !slices.Equal(got, want) || !slices.Equal(printer.Invert(got), list) {
		t.Errorf("Invert: %v", got)
	}
	if list[1].Kind != printer.Delete {
		t.Error("Invert changes its argument")
	}
	if len(printer.Invert(nil)) != 0 {
		t.Error("Invert of nothing")
	}
}

func changes(list []printer.Edit) int {
	n := 0
	for _, x := range list {
		if x.Kind != printer.Keep {
			n++
		}
	}
	return n
}

// fewest is the least number of changes, found in another way: by the longest common rows.
func fewest(old, now []string) int {
	best := 0
	for set := range 1 << len(old) {
		var kept []string
		for i, x := range old {
			if set>>i&1 == 1 {
				kept = append(kept, x)
			}
		}
		rest := kept
		for _, x := range now {
			if len(rest) > 0 && rest[0] == x {
				rest = rest[1:]
			}
		}
		if len(rest) == 0 {
			best = max(best, len(kept))
		}
	}
	return len(old) + len(now) - 2*best
}

// first finds the stated list of edits: from the front, with the fewest changes for the rest.
func first(old, now []string) []printer.Edit {
	switch {
	case len(old) == 0 && len(now) == 0:
		return nil
	case len(old) > 0 && len(now) > 0 && old[0] == now[0]:
		return append([]printer.Edit{{Kind: printer.Keep, Text: old[0]}}, first(old[1:], now[1:])...)
	case len(old) > 0 && fewest(old[1:], now)+1 == fewest(old, now):
		return append([]printer.Edit{{Kind: printer.Delete, Text: old[0]}}, first(old[1:], now)...)
	}
	return append([]printer.Edit{{Kind: printer.Insert, Text: now[0]}}, first(old, now[1:])...)
}

func randomRows(r *rand.Rand, most int) []string {
	rows := make([]string, r.Intn(most))
	for i := range rows {
		rows[i] = string(rune('a' + r.Intn(3)))
	}
	return rows
}

// P11.5
func TestDiffRandomly(t *testing.T) {
	r := rand.New(rand.NewSource(12))
	for range 2000 {
		old, now := randomRows(r, 7), randomRows(r, 7)
		got, e := printer.Diff(old, now)
		if want := first(old, now); !slices.Equal(got, want) || e != api.OK {
			t.Fatalf("Diff(%q, %q) = %v, %d, want %v", old, now, got, e, want)
		}
	}
	for range 300 {
		old, now := randomRows(r, 60), randomRows(r, 60)
		got, _ := printer.Diff(old, now)
		back, e := printer.Apply(now, printer.Invert(got))
		if !slices.Equal(back, old) || e != api.OK {
			t.Fatalf("Diff(%q, %q) = %v leads back to %q, %d", old, now, got, back, e)
		}
		there, e := printer.Apply(old, got)
		if !slices.Equal(there, now) || e != api.OK {
			t.Fatalf("Diff(%q, %q) = %v leads to %q, %d", old, now, got, there, e)
		}
		if same, _ := printer.Diff(old, old); changes(same) != 0 || len(same) != len(old) {
			t.Fatalf("Diff(%q, itself) = %v", old, same)
		}
	}
}
