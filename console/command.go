package console

import (
	"strconv"
	"strings"

	"gangsaw/api"
	"gangsaw/journal"
	"gangsaw/query"
	"gangsaw/yard"
)

// What stands behind the word of a command.
const (
	nothing = iota
	aWord
	aText
	aRecord // the whole line is a record
)

// command is a command: what stands behind its word, the form of that for the help, and the method that carries it out with it (or with the record).
type command struct {
	behind int
	form   string
	do     func(c *Console, rest string) (string, api.Errno)
}

func commands() map[string]command {
	return map[string]command{
		"free":    {aRecord, "ID X Y Z X Y Z", (*Console).fact},
		"cut":     {aRecord, "ID FIRST SECOND AXIS AT KERF", (*Console).fact},
		"assign":  {aRecord, "ID STONE", (*Console).fact},
		"release": {aRecord, "ID", (*Console).fact},
		"set":     {aRecord, "ID", (*Console).fact},
		"break":   {aRecord, "ID", (*Console).fact},
		"items":   {nothing, "", (*Console).items},
		"find":    {aWord, "ID", (*Console).find},
		"stone":   {aWord, "NAME", (*Console).stone},
		"path":    {aWord, "ID", (*Console).path},
		"totals":  {nothing, "", (*Console).totals},
		"undo":    {nothing, "", (*Console).undo},
		"head":    {nothing, "", (*Console).head},
		"query":   {aText, "TEXT", (*Console).query},
	}
}

// stateWord returns the word for a state.
func stateWord(state int) string {
	return map[int]string{yard.Whole: "whole", yard.Divided: "divided", yard.Assigned: "assigned", yard.Set: "set", yard.Broken: "broken"}[state]
}

func number(n int64) string { return strconv.FormatInt(n, 10) }

func point(v api.Vec) string {
	return strings.Join([]string{strconv.Itoa(v.X), strconv.Itoa(v.Y), strconv.Itoa(v.Z)}, blank)
}

func (c *Console) fact(record string) (string, api.Errno) {
	f, e := yard.Decode(record)
	if e != api.OK {
		return "", e
	}
	if e := c.yard.Do(f); e != api.OK {
		return "", e
	}
	return "ok", api.OK
}

func (c *Console) items(string) (string, api.Errno) {
	var lines []string
	for _, item := range c.yard.Items() {
		lines = append(lines, item.Id+blank+stateWord(item.State))
	}
	if len(lines) == 0 {
		return "none", api.OK
	}
	return strings.Join(lines, lineBreak), api.OK
}

func (c *Console) find(id string) (string, api.Errno) {
	item, e := c.yard.Find(id)
	if e != api.OK {
		return "", e
	}
	words := []string{item.Id, stateWord(item.State), point(item.Box.Min), "to", point(item.Box.Max)}
	if item.Parent != "" {
		words = append(words, "from", item.Parent)
	}
	if item.Stone != "" {
		words = append(words, "for", item.Stone)
	}
	return strings.Join(words, blank), api.OK
}

func (c *Console) stone(name string) (string, api.Errno) {
	item, e := c.yard.Stone(name)
	return item.Id, e
}

func (c *Console) path(id string) (string, api.Errno) {
	path, e := c.yard.Path(id)
	return strings.Join(path, blank), e
}

func (c *Console) totals(string) (string, api.Errno) {
	t := c.yard.Totals()
	words := []string{"freed", number(t.Freed)}
	for _, state := range [4]int{yard.Whole, yard.Assigned, yard.Set, yard.Broken} {
		words = append(words, stateWord(state), number(t.States[state]))
	}
	return strings.Join(append(words, "kerfs", number(t.Kerfs)), blank), api.OK
}

func (c *Console) undo(string) (string, api.Errno) {
	facts := c.yard.Facts()
	last := len(facts) - 1
	if last < 0 {
		return "", api.ErrNone
	}
	record, e := yard.Encode(facts[last])
	if e != api.OK {
		return "", e
	}
	c.yard, _ = yard.Replay(facts[:last])
	return "undone " + record, api.OK
}

func (c *Console) head(string) (string, api.Errno) {
	var records []string
	for _, f := range c.yard.Facts() {
		record, e := yard.Encode(f)
		if e != api.OK {
			return "", e
		}
		records = append(records, record)
	}
	return journal.Chain(records), api.OK
}

func (c *Console) query(text string) (string, api.Errno) {
	q, f := query.Parse(text)
	if f.Code != api.OK {
		return "", f.Code
	}
	result, e := query.Run([]query.Table{c.table()}, q)
	if e != api.OK {
		return "", e
	}
	lines := []string{strings.Join(result.Columns, blank)}
	for _, row := range result.Rows {
		var cells []string
		for _, x := range row {
			cells = append(cells, cellText(x))
		}
		lines = append(lines, strings.Join(cells, blank))
	}
	return strings.Join(lines, lineBreak), api.OK
}

func cellText(x query.Cell) string {
	if x.Text {
		return `"` + x.S + `"`
	}
	return number(x.N)
}

// table returns the table of queries.
func (c *Console) table() query.Table {
	text := func(s string) query.Cell { return query.Cell{Text: true, S: s} }
	length := func(from, to int) query.Cell { return query.Cell{N: int64(to - from)} }
	t := query.Table{Name: "items", Columns: []string{"id", "parent", "state", "stone", "x", "y", "z"}}
	for _, item := range c.yard.Items() {
		b := item.Box
		t.Rows = append(t.Rows, []query.Cell{
			text(item.Id), text(item.Parent), text(stateWord(item.State)), text(item.Stone),
			length(b.Min.X, b.Max.X), length(b.Min.Y, b.Max.Y), length(b.Min.Z, b.Max.Z),
		})
	}
	return t
}
