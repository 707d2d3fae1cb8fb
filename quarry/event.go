package quarry

import (
	"cmp"
	"slices"

	"gangsaw/api"
	"gangsaw/lexer"
	"gangsaw/model"
)

// Do carries out an event.
func (q *Quarry) Do(e Event) api.Errno {
	acts := map[int]func(e Event) api.Errno{Freed: q.free, Learned: q.learn, Divided: q.divide}
	act, found := acts[e.Kind]
	if !found || e != used(e) {
		return api.ErrInvalid
	}
	return act(e)
}

// Replay returns the quarry in which events happened, or the index of the first one that cannot happen.
func Replay(site api.Site, events []Event) (*Quarry, int, api.Errno) {
	q, e := New(site)
	if e != api.OK {
		return nil, 0, e
	}
	for i, event := range events {
		if e := q.Do(event); e != api.OK {
			return nil, i, e
		}
	}
	return q, len(events), api.OK
}

// used returns what of an event its kind uses.
func used(e Event) Event {
	switch e.Kind {
	case Freed:
		return Event{Kind: Freed, Name: e.Name}
	case Learned:
		return Event{Kind: Learned, Evidence: e.Evidence}
	}
	e.Evidence = api.Evidence{}
	return e
}

func (q *Quarry) free(e Event) api.Errno {
	_, code := q.Free(e.Name)
	return code
}

func (q *Quarry) learn(e Event) api.Errno {
	evidence := append(q.Evidence(), e.Evidence)
	if code := model.Check(evidence); code != api.OK {
		return code
	}
	if q == nil {
		return api.ErrState
	}
	q.evidence = evidence
	q.events = append(q.events, e)
	return api.OK
}

func (q *Quarry) divide(e Event) api.Errno {
	i := q.indexOf(e.Name)
	if i < 0 {
		return api.ErrUnknown
	}
	b := q.site.Blocks[i].Box
	others := slices.Concat(q.site.Blocks[:i], q.site.Blocks[i+1:])
	isOther := func(name string) bool {
		return slices.ContainsFunc(others, func(b api.Block) bool { return b.Name == name })
	}
	switch {
	case slices.Contains(q.taken, e.Name):
		return api.ErrState
	case !divides(b, e.Axis, e.At):
		return api.ErrRange
	case !lexer.Name(e.First) || !lexer.Name(e.Second):
		return api.ErrName
	case e.First == e.Second || isOther(e.First) || isOther(e.Second):
		return api.ErrDuplicate
	case len(q.site.Blocks) >= api.MaxBlocks:
		return api.ErrTooMany
	}
	below, behind := parts(b, e.Axis, e.At)
	q.site.Blocks = append(others, api.Block{Name: e.First, Box: below}, api.Block{Name: e.Second, Box: behind})
	slices.SortFunc(q.site.Blocks, func(a, b api.Block) int { return cmp.Compare(a.Name, b.Name) })
	q.events = append(q.events, e)
	return api.OK
}

func divides(b api.Box, axis, at int) bool {
	switch axis {
	case api.AxisX:
		return b.Min.X < at && at < b.Max.X
	case api.AxisY:
		return b.Min.Y < at && at < b.Max.Y
	}
	return false
}

// parts returns the parts of a box below a place on an axis and from it on.
func parts(b api.Box, axis, at int) (api.Box, api.Box) {
	below, behind := b, b
	if axis == api.AxisX {
		below.Max.X, behind.Min.X = at, at
	} else {
		below.Max.Y, behind.Min.Y = at, at
	}
	return below, behind
}
