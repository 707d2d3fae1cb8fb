package journal_test

import (
	"slices"
	"strings"
	"testing"

	"gangsaw/journal"
)

// P55.3, P55.4: frames that end with the bytes, the longest records, and what Open makes durable.
func TestEdges(t *testing.T) {
	long := strings.Repeat("x", journal.MaxRecord)
	for i, list := range [][]string{{""}, {"a", ""}, {long}, {long, "", long}} {
		data, head := chain(list...)
		if records, size, got := journal.Scan(data); !slices.Equal(records, list) || size != len(data) || got != head {
			t.Errorf("Scan %d = %d records, %d, %q", i, len(records), size, got)
		}
	}
	f := journal.NewFile()
	data, _ := chain("a", "b")
	f.Append(data + "rest")
	j := journal.Open(f)
	if j.Durable() != 2 || f.Bytes() != data {
		t.Errorf("%d, %q", j.Durable(), f.Bytes())
	}
	f.Crash(0, 0, 0)
	if f.Bytes() != data {
		t.Errorf("Bytes = %q", f.Bytes())
	}
}
