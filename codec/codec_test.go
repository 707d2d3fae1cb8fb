package codec_test

import (
	"math"
	"math/rand"
	"slices"
	"strings"
	"testing"

	"gangsaw/api"
	"gangsaw/codec"
)

func num(n int64) codec.Value                 { return codec.Num(n) }
func str(s string) codec.Value                { return codec.Str(s) }
func seq(items ...codec.Value) codec.Value    { return codec.Seq(items...) }
func kind(k int) codec.Value                  { return codec.Value{Kind: k} }
func raw(items ...codec.Value) codec.Value    { return codec.Value{Kind: codec.List, Items: items} }
func isZero(v codec.Value) bool               { return v.Kind == 0 && v.N == 0 && v.S == "" && len(v.Items) == 0 }
func nested(v codec.Value, n int) codec.Value { return wrap(v, n, seq) }

func wrap(v codec.Value, n int, list func(items ...codec.Value) codec.Value) codec.Value {
	for range n {
		v = list(v)
	}
	return v
}

type pair struct {
	v codec.Value
	s string
}

func encodings() []pair {
	return []pair{
		{num(0), "n\x00"},
		{num(-1), "n\x01"},
		{num(1), "n\x02"},
		{num(-2), "n\x03"},
		{num(63), "n\x7e"},
		{num(-64), "n\x7f"},
		{num(64), "n\x80\x01"},
		{num(-65), "n\x81\x01"},
		{num(8191), "n\xfe\x7f"},
		{num(-8192), "n\xff\x7f"},
		{num(8192), "n\x80\x80\x01"},
		{num(1 << 62), "n\x80\x80\x80\x80\x80\x80\x80\x80\x80\x01"},
		{num(1<<62 - 1), "n\xfe\xff\xff\xff\xff\xff\xff\xff\x7f"},
		{num(-1 << 62), "n\xff\xff\xff\xff\xff\xff\xff\xff\x7f"},
		{num(math.MaxInt64), "n\xfe\xff\xff\xff\xff\xff\xff\xff\xff\x01"},
		{num(math.MinInt64), "n\xff\xff\xff\xff\xff\xff\xff\xff\xff\x01"},
		{str(""), "t\x00"},
		{str("ab"), "t\x02ab"},
		{str("n\x00"), "t\x02n\x00"},
		{str("\xff\x00\x80"), "t\x03\xff\x00\x80"},
		{str("\u00e9"), "t\x02\xc3\xa9"},
		{str(strings.Repeat("x", 127)), "t\x7f" + strings.Repeat("x", 127)},
		{str(strings.Repeat("x", 128)), "t\x80\x01" + strings.Repeat("x", 128)},
		{str(strings.Repeat("x", 16384)), "t\x80\x80\x01" + strings.Repeat("x", 16384)},
		{seq(), "l\x00"},
		{seq(num(1), str("ab")), "l\x02n\x02t\x02ab"},
		{seq(seq(), seq(num(-1)), str("")), "l\x03l\x00l\x01n\x01t\x00"},
		{seq(slices.Repeat([]codec.Value{num(0)}, 128)...), "l\x80\x01" + strings.Repeat("n\x00", 128)},
		{nested(num(5), 16), strings.Repeat("l\x01", 16) + "n\x0a"},
		{nested(seq(), 15), strings.Repeat("l\x01", 15) + "l\x00"},
	}
}

// P2.1
func TestMakers(t *testing.T) {
	for _, n := range []int64{0, 1, -1, 77, math.MinInt64, math.MaxInt64} {
		if v := codec.Num(n); v.Kind != codec.Number || v.N != n || v.S != "" || v.Items != nil {
			t.Errorf("Num(%d) = %v", n, v)
		}
	}
	for _, s := range []string{"", "a", "\x00\xff"} {
		if v := codec.Str(s); v.Kind != codec.Text || v.S != s || v.N != 0 || v.Items != nil {
			t.Errorf("Str(%q) = %v", s, v)
		}
	}
	if v := codec.Seq(); v.Kind != codec.List || v.N != 0 || v.S != "" || len(v.Items) != 0 {
		t.Errorf("Seq() = %v", v)
	}
	v := codec.Seq(codec.Num(3), codec.Str("x"), codec.Seq(codec.Num(4)))
	if v.Kind != codec.List || v.N != 0 || v.S != "" || len(v.Items) != 3 || v.Items[0].N != 3 || v.Items[1].S != "x" || v.Items[2].Items[0].N != 4 {
		t.Errorf("Seq: %v", v)
	}
	odd := codec.Value{Kind: 9, N: 2, S: "q", Items: []codec.Value{{Kind: -4}}}
	if v := codec.Seq(odd); !codec.Equal(v.Items[0], odd) {
		t.Errorf("Seq of a value that is not possible: %v", v)
	}
}

// P2.1, P2.2
func TestEncodings(t *testing.T) {
	for _, c := range encodings() {
		if e := codec.Check(c.v); e != api.OK {
			t.Errorf("Check of %.40q: %d", c.s, e)
		}
		if s, e := codec.Encode(c.v); s != c.s || e != api.OK {
			t.Errorf("Encode: %.40q, %d, want %.40q", s, e, c.s)
		}
		if v, e := codec.Decode(c.s); !codec.Equal(v, c.v) || e != api.OK {
			t.Errorf("Decode(%.40q) = %v, %d", c.s, v, e)
		}
		for _, rest := range []string{"", "n", "n\x00", "\xff\xff\xff", "l"} {
			if v, n, e := codec.First(c.s + rest); !codec.Equal(v, c.v) || n != len(c.s) || e != api.OK {
				t.Errorf("First(%.40q) = %v, %d, %d", c.s+rest, v, n, e)
			}
			if v, e := codec.Decode(c.s + rest); rest != "" && (e != api.ErrSyntax || !isZero(v)) {
				t.Errorf("Decode(%.40q) = %v, %d", c.s+rest, v, e)
			}
		}
		for n := range min(len(c.s), 60) {
			if v, e := codec.Decode(c.s[:n]); e != api.ErrSyntax || !isZero(v) {
				t.Errorf("Decode(%.40q) = %v, %d", c.s[:n], v, e)
			}
			if v, k, e := codec.First(c.s[:n]); e != api.ErrSyntax || !isZero(v) || k != 0 {
				t.Errorf("First(%.40q) = %v, %d, %d", c.s[:n], v, k, e)
			}
		}
	}
}

// P2.1: values that are not possible.
func TestImpossible(t *testing.T) {
	items := []codec.Value{num(1)}
	for _, bad := range []codec.Value{
		{},
		kind(-1),
		kind(4),
		kind(math.MaxInt),
		kind(math.MinInt),
		{Kind: codec.Number, S: "a"},
		{Kind: codec.Number, N: 1, Items: items},
		{Kind: codec.Text, N: 1},
		{Kind: codec.Text, S: "a", Items: items},
		{Kind: codec.List, N: 1},
		{Kind: codec.List, S: "a", Items: items},
		{Items: items},
	} {
		for _, v := range []codec.Value{bad, raw(bad), raw(num(1), raw(str("a"), bad), num(2)), wrap(bad, 40, raw), raw(str(strings.Repeat("x", codec.MaxBytes)), bad)} {
			if e := codec.Check(v); e != api.ErrInvalid {
				t.Errorf("Check: %d", e)
			}
			if s, e := codec.Encode(v); s != "" || e != api.ErrInvalid {
				t.Errorf("Encode: %.40q, %d", s, e)
			}
		}
	}
	for _, v := range []codec.Value{{Kind: codec.Number, Items: []codec.Value{}}, {Kind: codec.Text, Items: []codec.Value{}}, {Kind: codec.List, Items: []codec.Value{}}} {
		if e := codec.Check(v); e != api.OK {
			t.Errorf("Check of %v: %d", v, e)
		}
	}
}

// P2.1: the limits of values.
func TestTooMany(t *testing.T) {
	x := func(n int) codec.Value { return str(strings.Repeat("x", n)) }
	for _, c := range []struct {
		name string
		v    codec.Value
		want api.Errno
	}{
		{"depth 16 with a number", nested(num(1), 16), api.OK},
		{"depth 17 with a number", nested(num(1), 17), api.ErrTooMany},
		{"depth 16 with an empty list", nested(seq(), 15), api.OK},
		{"depth 17 with an empty list", nested(seq(), 16), api.ErrTooMany},
		{"depth 17 in the last item", seq(num(1), seq(), nested(num(1), 16)), api.ErrTooMany},
		{"depth 17 in the first item", seq(nested(num(1), 16), num(1)), api.ErrTooMany},
		{"depth 5000", nested(num(1), 5000), api.ErrTooMany},
		{"text of most bytes", x(codec.MaxBytes - 4), api.OK},
		{"text of a byte more", x(codec.MaxBytes - 3), api.ErrTooMany},
		{"list of most bytes", seq(x(codec.MaxBytes-8), num(1)), api.OK},
		{"list of most bytes with a full group", seq(x(codec.MaxBytes-8), num(-64)), api.OK},
		{"list of a byte more", seq(x(codec.MaxBytes-8), num(64)), api.ErrTooMany},
		{"list of most zeros", raw(slices.Repeat([]codec.Value{num(0)}, codec.MaxBytes/2-2)...), api.OK},
		{"list of a zero more", raw(slices.Repeat([]codec.Value{num(0)}, codec.MaxBytes/2-1)...), api.ErrTooMany},
		{"list of most items", raw(slices.Repeat([]codec.Value{num(7)}, codec.MaxBytes/2-2)...), api.OK},
		{"list of an item more", raw(slices.Repeat([]codec.Value{num(7)}, codec.MaxBytes/2-1)...), api.ErrTooMany},
		{"long texts in lists", seq(seq(x(600000)), seq(x(600000))), api.ErrTooMany},
	} {
		if e := codec.Check(c.v); e != c.want {
			t.Errorf("%s: Check: %d, want %d", c.name, e, c.want)
		}
		s, e := codec.Encode(c.v)
		if e != c.want || (s == "") != (e != api.OK) {
			t.Errorf("%s: Encode: %d bytes, %d, want %d", c.name, len(s), e, c.want)
		}
		if e != api.OK {
			continue
		}
		if v, f := codec.Decode(s); f != api.OK || !codec.Equal(v, c.v) {
			t.Errorf("%s: Decode: %d", c.name, f)
		}
	}
}

// P2.2: what is refused.
func TestSyntax(t *testing.T) {
	huge := "\xff\xff\xff\xff\xff\xff\xff\xff\xff\x01"
	for _, s := range []string{
		"",
		"n", "t", "l",
		"x\x00", "\x00", "N\x00", "m\x00", "\xee\x00",
		"n\x80", "n\x80\x80",
		"n\x80\x00", "n\xff\x00", "n\x80\x80\x00", "t\x80\x00", "t\x81\x00x", "l\x80\x00", "l\x81\x00n\x00",
		"n\xff\xff\xff\xff\xff\xff\xff\xff\xff\x02",
		"n\xff\xff\xff\xff\xff\xff\xff\xff\xff\x03",
		"n\x80\x80\x80\x80\x80\x80\x80\x80\x80\x02",
		"n\xff\xff\xff\xff\xff\xff\xff\xff\xff\x7f",
		"n\xff\xff\xff\xff\xff\xff\xff\xff\xff\x81\x01",
		"n\xff\xff\xff\xff\xff\xff\xff\xff\xff\x81\x00",
		"n\x80\x80\x80\x80\x80\x80\x80\x80\x80\x80\x01",
		"n\x80\x80\x80\x80\x80\x80\x80\x80\x80\x80\x00",
		"t\x01", "t\x03ab", "t" + huge, "t" + huge + "abc",
		"t\x80\x80\x80\x80\x80\x80\x80\x80\x80\x01abc",
		"l\x01", "l\x02n\x00", "l\x01x", "l\x01n", "l\x01n\x80\x00", "l" + huge, "l" + huge + "n\x00",
		"l\x80\x80\x80\x80\x80\x80\x80\x80\x80\x01n\x00",
		strings.Repeat("l\x01", 17) + "n\x00",
		strings.Repeat("l\x01", 16) + "l\x00",
		"l\x02n\x00" + strings.Repeat("l\x01", 16) + "n\x00",
		strings.Repeat("l\x01", 400000),
		strings.Repeat("l\x01", 400000) + "n\x00",
	} {
		if v, e := codec.Decode(s); e != api.ErrSyntax || !isZero(v) {
			t.Errorf("Decode(%.40q) = %v, %d", s, v, e)
		}
		if v, n, e := codec.First(s); e != api.ErrSyntax || !isZero(v) || n != 0 {
			t.Errorf("First(%.40q) = %v, %d, %d", s, v, n, e)
		}
	}
}

// P2.2: the limit of strings comes first.
func TestLongStrings(t *testing.T) {
	for _, begin := range []string{"n\x00", "", "x"} {
		s := begin + strings.Repeat("\x00", codec.MaxBytes-len(begin))
		if v, e := codec.Decode(s); e != api.ErrSyntax || !isZero(v) {
			t.Errorf("Decode of most bytes: %v, %d", v, e)
		}
		if v, n, e := codec.First(s); begin == "n\x00" && (e != api.OK || n != 2 || !codec.Equal(v, num(0))) {
			t.Errorf("First of most bytes: %v, %d, %d", v, n, e)
		}
		s += "\x00"
		if v, e := codec.Decode(s); e != api.ErrTooMany || !isZero(v) {
			t.Errorf("Decode of a byte more: %v, %d", v, e)
		}
		if v, n, e := codec.First(s); e != api.ErrTooMany || !isZero(v) || n != 0 {
			t.Errorf("First of a byte more: %v, %d, %d", v, n, e)
		}
	}
	whole := "t\xbc\x84\x3d" + strings.Repeat("x", codec.MaxBytes-4)
	if v, e := codec.Decode(whole); e != api.OK || len(v.S) != codec.MaxBytes-4 {
		t.Errorf("Decode of a text of most bytes: %d, %d", len(v.S), e)
	}
}

// ordered has values in increasing order, possible ones and others.
func ordered() []codec.Value {
	return []codec.Value{
		kind(math.MinInt),
		kind(-1),
		{},
		{N: 1},
		num(math.MinInt64), num(-5), num(0),
		{Kind: codec.Number, S: "a"},
		{Kind: codec.Number, S: "a", Items: []codec.Value{{}}},
		{Kind: codec.Number, S: "b"},
		num(1), num(3), num(math.MaxInt64),
		{Kind: codec.Text, N: -1, S: "zz"},
		str(""),
		{Kind: codec.Text, Items: []codec.Value{{}}},
		str("A"), str("B"), str("a"), str("a\x00"), str("aa"), str("ab"), str("b"), str("\x7f"), str("\xc3\xa9"), str("\xff"),
		{Kind: codec.List, N: -1, S: "zz"},
		seq(),
		raw(kind(0)),
		seq(num(1)), seq(num(1), num(0)), seq(num(1), num(0), num(0)), seq(num(1), str("")), seq(num(2)), seq(num(10)),
		seq(str("a")), seq(seq()), seq(seq(), num(0)), seq(seq(num(0))), seq(seq(seq())),
		{Kind: codec.List, S: "a"},
		{Kind: codec.List, N: 1},
		kind(4),
		kind(math.MaxInt),
	}
}

// P2.3
func TestOrder(t *testing.T) {
	list, again := ordered(), ordered()
	for i, a := range list {
		for k, b := range again {
			want := 0
			if i < k {
				want = -1
			} else if i > k {
				want = 1
			}
			if c := codec.Compare(a, b); c != want {
				t.Errorf("Compare(%v, %v) = %d, want %d", a, b, c, want)
			}
			if codec.Equal(a, b) != (i == k) {
				t.Errorf("Equal(%v, %v)", a, b)
			}
		}
	}
	empty := codec.Value{Kind: codec.List, Items: []codec.Value{}}
	if none := kind(codec.List); !codec.Equal(empty, none) || codec.Compare(empty, none) != 0 || codec.Compare(none, empty) != 0 {
		t.Errorf("nil and empty items differ")
	}
	deep := wrap(num(1), 65000, raw)
	if !codec.Equal(deep, wrap(num(1), 65000, raw)) || codec.Compare(deep, wrap(num(2), 65000, raw)) != -1 {
		t.Errorf("deep lists")
	}
}

// P2.4
func TestDigest(t *testing.T) {
	all := make([]byte, 256)
	for i := range all {
		all[i] = byte(i)
	}
	for s, want := range map[string]string{
		"":                         "9e3779b9e17d05ac",
		"a":                        "1a07cb73f84c7e25",
		"b":                        "1ab61b9bee403312",
		"abc":                      "3af74be82234a86a",
		"\x00":                     "038f764979ddad8a",
		"\x00\x00":                 "5c5debb9cd78cbf4",
		"\xff":                     "6fd33f2d7de3575d",
		"block A 1200 x 900 x 600": "62d49576301a7813",
		"1306":                     "000fb7df18d0c0cf",
		"7522":                     "0003e70125e08b79",
		string(all):                "170c557670b46ece",
	} {
		if d := codec.Digest(s); d != want {
			t.Errorf("Digest(%q) = %s, want %s", s, d, want)
		}
	}
}

// P2.5: strings that differ in one byte have different digests.
func TestDigestsDiffer(t *testing.T) {
	s := []byte("bench 3, block 17")
	for i := range s {
		seen := map[string]bool{}
		for b := range 256 {
			x := slices.Clone(s)
			x[i] = byte(b)
			d := codec.Digest(string(x))
			if seen[d] || len(d) != 16 || strings.Trim(d, "0123456789abcdef") != "" {
				t.Fatalf("Digest(%q) = %q", x, d)
			}
			seen[d] = true
		}
	}
}

func someValue(r *rand.Rand, depth int) codec.Value {
	switch r.Intn(3 + min(depth, 2)) {
	case 0:
		return num(int64(r.Uint64()) >> r.Intn(64))
	case 1:
		return num(int64(r.Intn(5) - 2))
	case 2:
		return str("a\x00\xffnlt"[:r.Intn(7)])
	}
	var items []codec.Value
	for range r.Intn(4) {
		items = append(items, someValue(r, depth-1))
	}
	return seq(items...)
}

// P2.5: values and their encodings belong to each other, and no encoding begins another one.
func TestRoundTrips(t *testing.T) {
	r := rand.New(rand.NewSource(3))
	seen := map[string]codec.Value{}
	for range 5000 {
		v := someValue(r, 5)
		s, e := codec.Encode(v)
		if e != api.OK || codec.Check(v) != api.OK {
			t.Fatalf("Encode(%v): %d", v, e)
		}
		if w, f := codec.Decode(s); f != api.OK || !codec.Equal(v, w) {
			t.Fatalf("Decode(%q) = %v, %d", s, w, f)
		}
		if old, ok := seen[s]; ok && !codec.Equal(old, v) {
			t.Fatalf("%q encodes %v and %v", s, old, v)
		}
		seen[s] = v
	}
	var all []string
	for s := range seen {
		all = append(all, s)
	}
	slices.Sort(all)
	for i := 1; i < len(all); i++ {
		if strings.HasPrefix(all[i], all[i-1]) {
			t.Fatalf("%q begins %q", all[i-1], all[i])
		}
	}
}

// P2.5: every short string is the encoding of at most one value, and what is decoded encodes as the string.
func TestShortStrings(t *testing.T) {
	bytes := "ntl\x00\x01\x02\x7f\x80\x81\xff"
	var visit func(s string)
	visit = func(s string) {
		v, e := codec.Decode(s)
		if e == api.OK {
			if x, f := codec.Encode(v); f != api.OK || x != s {
				t.Errorf("%q is decoded as %v, which is encoded as %q, %d", s, v, x, f)
			}
		} else if e != api.ErrSyntax || !isZero(v) {
			t.Errorf("Decode(%q) = %v, %d", s, v, e)
		}
		w, n, f := codec.First(s)
		if (f == api.OK) != (n > 0) || (e == api.OK) != (f == api.OK && n == len(s)) {
			t.Errorf("First(%q) = %v, %d, %d", s, w, n, f)
		}
		if len(s) < 5 {
			for i := range len(bytes) {
				visit(s + bytes[i:i+1])
			}
		}
	}
	visit("")
}

// P1: Seq keeps none of its arguments, at any depth.
func TestSeqCopies(t *testing.T) {
	inner := []codec.Value{num(1), num(2)}
	items := []codec.Value{raw(inner...), num(3)}
	v := codec.Seq(items[:1]...)
	want := seq(seq(num(1), num(2)))
	_ = append(v.Items, num(9))
	items[0].Items[0] = num(7)
	items[0] = num(8)
	if !codec.Equal(v, want) {
		t.Errorf("Seq kept its argument: %v", v)
	}
	v.Items[0].Items[1] = num(5)
	if inner[1].N != 2 || items[1].N != 3 {
		t.Errorf("Seq shares memory with its argument: %v, %v", inner, items)
	}
	twice := codec.Seq(raw(inner...), raw(inner...))
	twice.Items[0].Items[0] = num(40)
	if twice.Items[1].Items[0].N == 40 {
		t.Errorf("two lists of a result share memory")
	}
}

// P1: no function changes its arguments, and results of Decode are apart from each other.
func TestMemory(t *testing.T) {
	v := seq(num(1), seq(str("a"), seq()), num(2))
	s, e := codec.Encode(v)
	if e != api.OK || !codec.Equal(v, seq(num(1), seq(str("a"), seq()), num(2))) {
		t.Errorf("Encode changed its argument: %v, %d", v, e)
	}
	x, _ := codec.Decode(s)
	y, _ := codec.Decode(s)
	x.Items[1].Items[0] = num(4)
	x.Items[0] = num(5)
	if !codec.Equal(y, v) {
		t.Errorf("results share memory: %v", y)
	}
	for i := range y.Items {
		_ = append(y.Items[i].Items, num(6))
	}
	if !codec.Equal(y, v) {
		t.Errorf("lists of a result share memory: %v", y)
	}
}
