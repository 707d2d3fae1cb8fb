package journal_test

import (
	"math"
	"math/rand"
	"slices"
	"strings"
	"testing"

	"gangsaw/api"
	"gangsaw/codec"
	"gangsaw/journal"
)

const zeros = "0000000000000000"

// frame is the frame of a record, by its definition.
func frame(head, record string) (string, string) {
	n := len(record)
	next := codec.Digest(head + record)
	return string([]byte{byte(n / 256), byte(n % 256), byte(255 - n/256), byte(255 - n%256)}) + record + next, next
}

// chain is a chain of records, with its head.
func chain(records ...string) (string, string) {
	data, head := "", zeros
	for _, r := range records {
		var f string
		f, head = frame(head, r)
		data += f
	}
	return data, head
}

// P55.2: the example, and long records.
func TestFrame(t *testing.T) {
	got, head, e := journal.Frame(zeros, "")
	if got != "\x00\x00\xff\xff"+codec.Digest(zeros) || head != codec.Digest(zeros) || len(got) != 20 || e != api.OK {
		t.Errorf("Frame = %q, %q, %d", got, head, e)
	}
	for _, record := range []string{"a", "\x00\xff", strings.Repeat("x", 255), strings.Repeat("x", 256), strings.Repeat("y", journal.MaxRecord)} {
		want, next := frame("0123456789abcdef", record)
		if got, head, e := journal.Frame("0123456789abcdef", record); got != want || head != next || e != api.OK {
			t.Errorf("Frame of %d bytes = %q, %q, %d", len(record), got, head, e)
		}
	}
	long := strings.Repeat("x", journal.MaxRecord+1)
	for i, c := range []struct {
		head, record string
		e            api.Errno
	}{{"", long, api.ErrInvalid}, {zeros + "0", "a", api.ErrInvalid}, {zeros[:15], "a", api.ErrInvalid}, {zeros, long, api.ErrTooMany}} {
		if got, head, e := journal.Frame(c.head, c.record); got != "" || head != "" || e != c.e {
			t.Errorf("Frame %d = %q, %q, %d", i, got, head, e)
		}
	}
	_, head = chain("a", "b")
	if got := journal.Chain([]string{"a", "b"}); got != head {
		t.Errorf("Chain = %q", got)
	}
	if got := journal.Chain(nil); got != zeros {
		t.Errorf("Chain = %q", got)
	}
	if got := journal.Chain([]string{long}); got != codec.Digest(zeros+long) {
		t.Errorf("Chain = %q", got)
	}
}

// P55.1
func TestFile(t *testing.T) {
	f := journal.NewFile()
	f.Append("abc")
	f.Append("")
	f.Append("defg")
	for _, n := range []int{-1, 8, math.MaxInt, math.MinInt} {
		if e := f.Truncate(n); e != api.ErrRange {
			t.Errorf("Truncate(%d) = %d", n, e)
		}
	}
	if e := f.Truncate(7); e != api.OK || f.Bytes() != "abcdefg" {
		t.Errorf("Truncate = %d, %q", e, f.Bytes())
	}
	f.Sync()
	f.Append("hij")
	f.Crash(2, -1, 255)
	if f.Bytes() != "abcdefghi" {
		t.Errorf("Bytes = %q", f.Bytes())
	}
	f.Truncate(4)
	f.Append("xyz")
	f.Crash(0, 0, 1)
	if f.Bytes() != "abcd" {
		t.Errorf("Bytes = %q", f.Bytes())
	}
	for i, c := range []struct {
		kept, at int
		flip     byte
		want     string
	}{
		{-1, 0, 1, "abcd"}, {math.MinInt, 0, 1, "abcd"}, {math.MaxInt, -1, 1, "abcdxyz"}, {3, 0, 1, "abcdyyz"}, {3, 2, 3, "abcdxyy"}, {3, 3, 3, "abcdxyz"}, {2, 2, 3, "abcdxy"}, {2, 1, 0, "abcdxy"}, {2, math.MaxInt, 9, "abcdxy"}, {2, math.MinInt, 9, "abcdxy"},
	} {
		f := journal.NewFile()
		f.Append("abcd")
		f.Sync()
		f.Append("xyz")
		f.Crash(c.kept, c.at, c.flip)
		if f.Bytes() != c.want {
			t.Errorf("Crash %d: %q", i, f.Bytes())
		}
		f.Append("more")
		f.Crash(0, 0, 1)
		if f.Bytes() != c.want {
			t.Errorf("Crash %d makes not all durable: %q", i, f.Bytes())
		}
	}
	// What was durable and is cut off is durable no more.
	g := journal.NewFile()
	g.Append("abcd")
	g.Sync()
	g.Truncate(2)
	g.Append("xy")
	g.Crash(0, 0, 0)
	if g.Bytes() != "ab" {
		t.Errorf("Bytes = %q", g.Bytes())
	}
}

// P55.4: the examples.
func TestExamples(t *testing.T) {
	for i, c := range []struct {
		kept, at int
		flip     byte
		records  []string
		size     int
	}{{5, 0, 0, []string{"a"}, 21}, {100, -1, 0, []string{"a", "b"}, 42}, {100, 4, 1, []string{"a"}, 21}} {
		f := journal.NewFile()
		j := journal.Open(f)
		e1 := j.Add("a")
		j.Commit()
		e2 := j.Add("b")
		if !slices.Equal(j.Records(), []string{"a", "b"}) || j.Durable() != 1 || j.Head() != journal.Chain([]string{"a", "b"}) || e1 != api.OK || e2 != api.OK {
			t.Errorf("%v, %d, %q, %d, %d", j.Records(), j.Durable(), j.Head(), e1, e2)
		}
		f.Crash(c.kept, c.at, c.flip)
		j = journal.Open(f)
		if !slices.Equal(j.Records(), c.records) || len(f.Bytes()) != c.size || j.Durable() != len(c.records) || j.Head() != journal.Chain(c.records) {
			t.Errorf("crash %d: %v, %d, %d, %q", i, j.Records(), len(f.Bytes()), j.Durable(), j.Head())
		}
	}
}

// P55.4, P1: the errors, and journals that Open did not make.
func TestOdd(t *testing.T) {
	f := journal.NewFile()
	j := journal.Open(f)
	if e := j.Add(strings.Repeat("x", journal.MaxRecord+1)); e != api.ErrTooMany || f.Bytes() != "" || len(j.Records()) != 0 {
		t.Errorf("Add = %d, %q", e, f.Bytes())
	}
	if j.Head() != zeros || j.Durable() != 0 {
		t.Errorf("%q, %d", j.Head(), j.Durable())
	}
	if e := j.Add(strings.Repeat("x", journal.MaxRecord)); e != api.OK || j.Durable() != 0 {
		t.Errorf("Add = %d", e)
	}
	j.Records()[0] = "y"
	if j.Records()[0] != strings.Repeat("x", journal.MaxRecord) {
		t.Error("Records shares memory with the journal")
	}
	var none *journal.Journal
	var zero journal.Journal
	for _, k := range []*journal.Journal{none, &zero} {
		k.Commit()
		if k.Add("a") != api.ErrState || len(k.Records()) != 0 || k.Durable() != 0 || k.Head() != zeros {
			t.Errorf("%v, %d, %q", k.Records(), k.Durable(), k.Head())
		}
	}
	var nothing *journal.File
	nothing.Append("a")
	nothing.Sync()
	nothing.Crash(1, 0, 1)
	if nothing.Bytes() != "" || nothing.Truncate(0) != api.OK || nothing.Truncate(1) != api.ErrRange {
		t.Error("a nil file")
	}
	k := journal.Open(nil)
	if e := k.Add("a"); e != api.OK || len(k.Records()) != 1 {
		t.Errorf("Add = %d", e)
	}
}

// P55.3
func TestScan(t *testing.T) {
	data, head := chain("a", "", "ccc")
	part, partHead := chain("a", "")
	other, _ := frame(zeros, "ccc")
	huge, _ := frame(zeros, strings.Repeat("x", journal.MaxRecord+1))
	change := func(at int) string {
		b := []byte(data)
		b[at] ^= 1
		return string(b)
	}
	for i, c := range []struct {
		data    string
		records []string
		size    int
		head    string
	}{
		{"", nil, 0, zeros}, {data, []string{"a", "", "ccc"}, len(data), head}, {data + "x", []string{"a", "", "ccc"}, len(data), head}, {data[:len(data)-1], []string{"a", ""}, len(part), partHead}, {part + other, []string{"a", ""}, len(part), partHead}, {"x" + data, nil, 0, zeros}, {huge, nil, 0, zeros}, {data[:3], nil, 0, zeros}, {data[:20], nil, 0, zeros},
		{change(len(part)), []string{"a", ""}, len(part), partHead}, {change(len(part) + 1), []string{"a", ""}, len(part), partHead}, {change(len(part) + 2), []string{"a", ""}, len(part), partHead}, {change(len(part) + 3), []string{"a", ""}, len(part), partHead}, {change(len(part) + 5), []string{"a", ""}, len(part), partHead}, {change(len(data) - 1), []string{"a", ""}, len(part), partHead}, {change(0), nil, 0, zeros},
	} {
		records, size, got := journal.Scan(c.data)
		if !slices.Equal(records, c.records) || size != c.size || got != c.head {
			t.Errorf("Scan %d = %q, %d, %q", i, records, size, got)
		}
	}
	_, first := chain("a")
	for i, c := range []struct {
		data, head string
		want       bool
	}{
		{data, zeros, true}, {data, first, true}, {data, partHead, true}, {data, head, true}, {part, head, false}, {"", zeros, true}, {"x", zeros, true}, {"", "", false}, {data, "", false}, {data, zeros + "0", false}, {data[:len(data)-1], head, false}, {change(0), first, false},
	} {
		if got := journal.Extends(c.data, c.head); got != c.want {
			t.Errorf("Extends %d = %v", i, got)
		}
	}
}

// P55.5, P55.6: crashes at random.
func TestCrashes(t *testing.T) {
	r := rand.New(rand.NewSource(1))
	for range 2000 {
		f := journal.NewFile()
		j := journal.Open(f)
		var added []string
		for range 1 + r.Intn(4) {
			durable := 0
			for range r.Intn(6) {
				if r.Intn(3) == 0 {
					j.Commit()
				} else {
					record := strings.Repeat("r", r.Intn(4)) + string(rune('a'+r.Intn(5)))
					if e := j.Add(record); e != api.OK {
						t.Fatal(e)
					}
					added = append(added, record)
				}
			}
			durable = j.Durable()
			head := j.Head()
			if !slices.Equal(j.Records(), added) || journal.Chain(added) != head || !journal.Extends(f.Bytes(), head) {
				t.Fatalf("%q, want %q", j.Records(), added)
			}
			at := r.Intn(40) - 5
			f.Crash(r.Intn(60)-5, at, byte(1+r.Intn(255)))
			j = journal.Open(f)
			got := j.Records()
			if len(got) < durable || len(got) > len(added) || !slices.Equal(got, added[:len(got)]) || j.Durable() != len(got) {
				t.Fatalf("%q behind a crash, %d of %q were durable", got, durable, added)
			}
			want, wantHead := chain(got...)
			if f.Bytes() != want || j.Head() != wantHead {
				t.Fatalf("the file has %q, want %q", f.Bytes(), want)
			}
			j = journal.Open(f)
			if !slices.Equal(j.Records(), got) || f.Bytes() != want {
				t.Fatalf("opened again: %q", j.Records())
			}
			added = slices.Clone(got)
		}
	}
}
