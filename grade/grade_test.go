package grade_test

import (
	"math"
	"math/rand"
	"reflect"
	"slices"
	"strconv"
	"strings"
	"testing"

	"gangsaw/api"
	"gangsaw/grade"
	"gangsaw/parser"
	"gangsaw/sample"
)

func g(name string, rank, strength, absorption int) api.Grade {
	return api.Grade{Name: name, Rank: rank, Strength: strength, Absorption: absorption}
}

// lot is that of the chapter's examples.
func lot() []api.Test {
	return []api.Test{{Sample: "x", Strength: 9000, Absorption: 300}, {Sample: "y", Strength: 11000, Absorption: 200}, {Sample: "z", Strength: 12000, Absorption: 500}}
}

// P34.1, P34.2: the examples, and limits that are just missed.
func TestMeets(t *testing.T) {
	for i, c := range []struct {
		g                    api.Grade
		meets                bool
		fails                []int
		strength, absorption int
		e                    api.Errno
	}{
		{g("a", 1, 9000, 500), true, nil, 0, 0, api.OK},
		{g("a", 2, 11000, 300), true, []int{0, 2}, 0, 0, api.OK},
		{g("a", 4, 0, 1000000), false, nil, 0, 0, api.ErrNone},
		{g("a", 3, 12000, 200), true, []int{0, 1, 2}, 0, 0, api.OK},
		{g("a", 1, 9001, 500), false, []int{0}, -1, 0, api.OK},
		{g("a", 1, 9000, 499), false, []int{2}, 0, -1, api.OK},
		{g("a", 2, 11001, 300), false, []int{0, 1, 2}, -1, 0, api.OK},
		{g("a", 2, 11000, 299), false, []int{0, 2}, 0, -1, api.OK},
		{g("a", 2, 1000, 1000), true, nil, 10000, 700, api.OK},
	} {
		if got, e := grade.Meets(c.g, lot()); got != c.meets || e != api.OK {
			t.Errorf("Meets %d = %v, %d", i, got, e)
		}
		if got, e := grade.Fails(c.g, lot()); !slices.Equal(got, c.fails) || e != api.OK {
			t.Errorf("Fails %d = %v, %d", i, got, e)
		}
		if s, a, e := grade.Margin(c.g, lot()); s != c.strength || a != c.absorption || e != c.e {
			t.Errorf("Margin %d = %d, %d, %d", i, s, a, e)
		}
	}
	if got, e := grade.Meets(g("a", 1, 0, 1000000), nil); got || e != api.OK {
		t.Errorf("Meets = %v, %d", got, e)
	}
	list := []api.Grade{g("fine", 1, 10000, 500), g("good", 2, 11000, 300), g("fair", 1, 0, 1000000)}
	if name, e := grade.Of(list, lot()); name != "good" || e != api.OK {
		t.Errorf("Of = %q, %d", name, e)
	}
	if name, e := grade.Of(list, nil); name != "" || e != api.ErrNone {
		t.Errorf("Of = %q, %d", name, e)
	}
	if name, e := grade.Of(nil, lot()); name != "" || e != api.ErrNone {
		t.Errorf("Of = %q, %d", name, e)
	}
}

// P34.3: the examples.
func TestImplies(t *testing.T) {
	a := g("a", 1, 9000, 500)
	for i, c := range []struct {
		a, b api.Grade
		want bool
	}{
		{a, g("b", 1, 8000, 600), true}, {a, a, true}, {a, g("b", 1, 9001, 500), false}, {a, g("b", 1, 9000, 499), false},
		{a, g("b", 2, 0, 1000000), false}, {g("a", 2, 11000, 300), g("b", 1, 1, 1000000), false}, {g("a", 2, 11000, 300), g("b", 1, 0, 999999), false},
		{g("a", 2, 11000, 300), g("b", 1, 0, 1000000), true}, {g("a", 3, 5, 5), g("b", 3, 5, 5), true}, {g("a", 3, 5, 5), g("b", 2, 0, 1000000), true}, {g("a", 3, 5, 5), g("b", 2, 1, 1000000), false},
		{g("a", 256, 5, 5), g("b", 256, 6, 5), false},
	} {
		if got, e := grade.Implies(c.a, c.b); got != c.want || e != api.OK {
			t.Errorf("Implies %d = %v, %d", i, got, e)
		}
		w, e := grade.Witness(c.a, c.b, c.a.Rank)
		if c.want {
			if w != nil || e != api.ErrNone {
				t.Errorf("Witness %d = %v, %d", i, w, e)
			}
			continue
		}
		meetsA, f := grade.Meets(c.a, w)
		meetsB, _ := grade.Meets(c.b, w)
		if len(w) != c.a.Rank || !meetsA || meetsB || e != api.OK || f != api.OK {
			t.Errorf("Witness %d = %v, %d", i, w, e)
		}
	}
	if w, e := grade.Witness(g("a", 3, 5, 5), g("b", 1, 9, 9), 2); w != nil || e != api.ErrNone {
		t.Errorf("Witness = %v, %d", w, e)
	}
}

// lots are all lots of n tests with strengths and absorptions at the edges of limits from 0 to 2.
func lots(n int) [][]api.Test {
	list := [][]api.Test{nil}
	for i := range n {
		var next [][]api.Test
		for _, l := range list {
			for _, s := range []int{0, 1, 2, sample.MaxStrength} {
				for _, a := range []int{0, 1, 2, sample.MaxAbsorption} {
					next = append(next, append(slices.Clone(l), api.Test{Sample: "s" + strconv.Itoa(i), Strength: s, Absorption: a}))
				}
			}
		}
		list = next
	}
	return list
}

// P34.3, P34.5: by trial of all lots of up to three tests.
func TestImpliesByTrial(t *testing.T) {
	r := rand.New(rand.NewSource(1))
	random := func(name string) api.Grade {
		limits := []int{0, 1, 2, sample.MaxStrength}
		return g(name, 1+r.Intn(3), limits[r.Intn(3)], limits[r.Intn(4)])
	}
	all := [][][]api.Test{nil, lots(1), lots(2), lots(3)}
	for range 60 {
		a, b := random("a"), random("b")
		implies, _ := grade.Implies(a, b)
		found := false
		for n := 1; n <= 3; n++ {
			isThere := slices.ContainsFunc(all[n], func(l []api.Test) bool {
				meetsA, _ := grade.Meets(a, l)
				meetsB, _ := grade.Meets(b, l)
				return meetsA && !meetsB
			})
			w, e := grade.Witness(a, b, n)
			if isThere != (e == api.OK) || isThere == (e == api.ErrNone) || isThere != (w != nil) {
				t.Fatalf("Witness(%v, %v, %d) = %v, %d", a, b, n, w, e)
			}
			found = found || isThere && n == a.Rank
		}
		if implies == found {
			t.Fatalf("Implies(%v, %v) = %v", a, b, implies)
		}
	}
}

// P34.5
func TestProperties(t *testing.T) {
	r := rand.New(rand.NewSource(2))
	for range 2000 {
		var list []api.Test
		for i := range r.Intn(7) {
			list = append(list, api.Test{Sample: "s" + strconv.Itoa(i), Strength: r.Intn(9), Absorption: r.Intn(9)})
		}
		x := g("x", 1+r.Intn(4), r.Intn(6), r.Intn(9))
		meets, _ := grade.Meets(x, list)
		s, a, e := grade.Margin(x, list)
		if meets != (e == api.OK && s >= 0 && a >= 0) {
			t.Fatalf("%v, %v: %v, %d, %d, %d", x, list, meets, s, a, e)
		}
		r.Shuffle(len(list), func(i, k int) { list[i], list[k] = list[k], list[i] })
		if again, _ := grade.Meets(x, list); again != meets {
			t.Fatalf("%v, %v: %v", x, list, again)
		}
		if len(list) > 0 {
			list[0].Strength += r.Intn(3)
			list[0].Absorption -= r.Intn(list[0].Absorption + 1)
		}
		if again, _ := grade.Meets(x, list); meets && !again {
			t.Fatalf("%v, %v is missed", x, list)
		}
	}
}

// P34.1, P1: each error, and which one comes first.
func TestErrors(t *testing.T) {
	type refusal struct {
		x api.Grade
		e api.Errno
	}
	list := []refusal{{g("A", 0, 0, 0), api.ErrName}, {g("", 0, 0, 0), api.ErrName}, {g(strings.Repeat("a", 25), 0, 0, 0), api.ErrName}}
	for _, n := range []int{0, -1, 257, math.MaxInt, math.MinInt} {
		list = append(list, refusal{g("a", n, 0, 0), api.ErrRange})
	}
	for _, n := range []int{-1, 1000001, math.MaxInt, math.MinInt} {
		list = append(list, refusal{g("a", 1, n, 0), api.ErrRange}, refusal{g("a", 1, 0, n), api.ErrRange})
	}
	bad := []api.Test{{}}
	ok := g("ok", 256, 1000000, 1000000)
	for i, c := range list {
		_, e1 := grade.Meets(c.x, bad)
		_, e2 := grade.Of([]api.Grade{ok, c.x, ok}, bad)
		_, e3 := grade.Fails(c.x, bad)
		_, _, e4 := grade.Margin(c.x, bad)
		_, e5 := grade.Implies(c.x, ok)
		_, e6 := grade.Implies(ok, c.x)
		_, e7 := grade.Witness(c.x, ok, 0)
		_, e8 := grade.Witness(ok, c.x, 0)
		l, e9 := grade.Line(c.x)
		for k, e := range []api.Errno{grade.Check([]api.Grade{ok, c.x, ok}), e1, e2, e3, e4, e5, e6, e7, e8, e9} {
			if e != c.e {
				t.Errorf("refusal %d, function %d: %d, want %d", i, k, e, c.e)
			}
		}
		if !reflect.DeepEqual(l, api.Line{}) {
			t.Errorf("refusal %d has a line", i)
		}
	}
	if _, e := grade.Implies(g("a", 0, 0, 0), g("A", 1, 0, 0)); e != api.ErrName {
		t.Errorf("Implies = %d", e)
	}
	if e := grade.Check([]api.Grade{ok, g("a", 1, 0, 0), ok}); e != api.ErrDuplicate {
		t.Errorf("Check = %d", e)
	}
	if _, e := grade.Of([]api.Grade{ok, ok}, bad); e != api.ErrDuplicate {
		t.Errorf("Of = %d", e)
	}
	many := make([]api.Grade, grade.MaxGrades+1)
	if _, e := grade.Of(many, bad); grade.Check(many) != api.ErrTooMany || e != api.ErrTooMany {
		t.Errorf("Of = %d", e)
	}
	if e := grade.Check(many[:16]); e != api.ErrName {
		t.Errorf("Check = %d", e)
	}
	_, e1 := grade.Meets(ok, bad)
	_, e2 := grade.Of([]api.Grade{ok}, bad)
	_, e3 := grade.Fails(ok, bad)
	_, _, e4 := grade.Margin(ok, bad)
	if e1 != api.ErrName || e2 != api.ErrName || e3 != api.ErrName || e4 != api.ErrName {
		t.Errorf("%d, %d, %d, %d", e1, e2, e3, e4)
	}
	for _, n := range []int{0, -1, 257, math.MaxInt, math.MinInt} {
		if w, e := grade.Witness(ok, ok, n); w != nil || e != api.ErrRange {
			t.Errorf("Witness of %d = %v, %d", n, w, e)
		}
	}
}

// P34.4
func TestLines(t *testing.T) {
	lines, _ := parser.Parse("grade fine rank 2 strength 11000 absorption 300\n")
	x, f := grade.Load(lines[0])
	if x != g("fine", 2, 11000, 300) || f != (api.Fault{}) {
		t.Errorf("Load = %v, %v", x, f)
	}
	l, e := grade.Line(x)
	for i := range lines[0].Tokens {
		lines[0].Tokens[i].At = 0
	}
	lines[0].At = 0
	if !reflect.DeepEqual(l, lines[0]) || e != api.OK {
		t.Errorf("Line = %v, %d", l, e)
	}
	for source, want := range map[string]api.Fault{
		"grade fine rank 1 strength 0 absorption 1000000":       {},
		"grade fine rank 256 strength 1000000 absorption 0":     {},
		"grade fine rank 2 strength 11000 absorption 300:":      {Code: api.ErrSyntax, Line: 1, Col: 1},
		"grade fine rank 999 strength 11000 absorption 300:":    {Code: api.ErrSyntax, Line: 1, Col: 1},
		"grade Fine rank 2 strength 11000 absorption 300 x":     {Code: api.ErrName, Line: 1, Col: 7},
		"grade fine rank 2 strength 11000 absorption":           {Code: api.ErrSyntax, Line: 1, Col: 34},
		"grade fine rank 0 strength 11000 absorption 300 x":     {Code: api.ErrSyntax, Line: 1, Col: 49},
		"grades fine rank 2 strength 11000 absorption 300":      {Code: api.ErrSyntax, Line: 1, Col: 1},
		"grade fine rank 0 strength -1 absorption -1":           {Code: api.ErrRange, Line: 1, Col: 17},
		"grade fine rank 257 strength -1 absorption -1":         {Code: api.ErrRange, Line: 1, Col: 17},
		"grade fine rank 1 strength -1 absorption -1":           {Code: api.ErrRange, Line: 1, Col: 28},
		"grade fine rank 1 strength 1000001 absorption -1":      {Code: api.ErrRange, Line: 1, Col: 28},
		"grade fine rank 1 strength 0 absorption -1":            {Code: api.ErrRange, Line: 1, Col: 41},
		"grade fine rank 1 strength 0 absorption 1000001":       {Code: api.ErrRange, Line: 1, Col: 41},
		"grade fine rank 1 strength 0 absorption 1000000000000": {Code: api.ErrRange, Line: 1, Col: 41},
	} {
		lines, _ := parser.Parse(source)
		x, f := grade.Load(lines[0])
		if f != want || f.Code != api.OK && x != (api.Grade{}) {
			t.Errorf("Load of %q = %v, %v", source, x, f)
		}
	}
	kid := lines[0]
	kid.Kids = []api.Line{l}
	if x, f := grade.Load(kid); x != (api.Grade{}) || f.Code != api.ErrSyntax {
		t.Errorf("Load = %v, %v", x, f)
	}
	if _, f := grade.Load(api.Line{}); f.Code != api.ErrSyntax {
		t.Errorf("Load = %v", f)
	}
}
