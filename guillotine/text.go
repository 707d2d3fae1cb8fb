package guillotine

import (
	"strconv"
	"strings"

	"gangsaw/api"
	"gangsaw/lexer"
)

const (
	axisNames   = "xyz"
	wasteText   = "w"
	offcutText  = "o "
	productText = "p "
	beforeKerf  = "/"
	opening     = "("
	separator   = ";"
	closing     = ")"
)

// Text returns the text of a plan.
func Text(size api.Vec, plan []api.Node) (string, api.Errno) {
	if e := Check(size, plan); e != api.OK {
		return "", e
	}
	var text strings.Builder
	var write func(n api.Node)
	write = func(n api.Node) {
		switch n.Kind {
		case api.Waste:
			text.WriteString(wasteText)
		case api.Offcut:
			text.WriteString(offcutText + n.Name)
		case api.Product:
			text.WriteString(productText + n.Name)
		default:
			text.WriteString(axisNames[n.Axis:n.Axis+1] + strconv.Itoa(n.At) + beforeKerf + strconv.Itoa(n.Kerf) + opening)
			write(plan[n.Left])
			text.WriteString(separator)
			write(plan[n.Right])
			text.WriteString(closing)
		}
	}
	write(plan[0])
	return text.String(), api.OK
}

// Parse returns the plan of a text.
func Parse(size api.Vec, s string) ([]api.Node, api.Errno) {
	if !isSize(size) {
		return nil, api.ErrInvalid
	}
	r := reader{rest: s}
	plan, ok := r.plan()
	switch {
	case !ok || r.rest != "":
		return nil, api.ErrSyntax
	case len(plan) > api.MaxNodes:
		return nil, api.ErrTooMany
	}
	if e := checkCuts(size, plan); e != api.OK {
		return nil, e
	}
	return plan, api.OK
}

// reader reads texts of plans. After a method has failed its rest has no meaning.
type reader struct {
	rest string
}

// plan reads the nodes of a plan. The cuts that are not complete are kept in a list, as a text may be nested deeper than calls should be.
func (r *reader) plan() ([]api.Node, bool) {
	var plan []api.Node
	var open []int
	for {
		n, ok := r.node()
		if !ok {
			return nil, false
		}
		if len(open) > 0 {
			link(&plan[open[len(open)-1]], len(plan))
		}
		plan = append(plan, n)
		if n.Kind == api.Cut {
			open = append(open, len(plan)-1)
			continue
		}
		for len(open) > 0 && plan[open[len(open)-1]].Right > 0 {
			if !r.skip(closing) {
				return nil, false
			}
			open = open[:len(open)-1]
		}
		if len(open) == 0 {
			return plan, true
		}
		if !r.skip(separator) {
			return nil, false
		}
	}
}

// link makes a node the next part of a cut.
func link(cut *api.Node, part int) {
	if cut.Left == 0 {
		cut.Left = part
	} else {
		cut.Right = part
	}
}

// node reads a leaf, or a cut up to its parenthesis.
func (r *reader) node() (api.Node, bool) {
	switch {
	case r.skip(wasteText):
		return api.Node{Kind: api.Waste}, true
	case r.skip(offcutText):
		return r.leaf(api.Offcut)
	case r.skip(productText):
		return r.leaf(api.Product)
	}
	return r.cut()
}

func (r *reader) leaf(kind int) (api.Node, bool) {
	end := strings.IndexAny(r.rest, separator+closing)
	if end < 0 {
		end = len(r.rest)
	}
	n := api.Node{Kind: kind, Name: r.rest[:end]}
	r.rest = r.rest[end:]
	return n, lexer.Name(n.Name)
}

func (r *reader) cut() (api.Node, bool) {
	if r.rest == "" {
		return api.Node{}, false
	}
	n := api.Node{Kind: api.Cut, Axis: strings.IndexByte(axisNames, r.rest[0])}
	r.rest = r.rest[1:]
	var hasAt, hasKerf bool
	n.At, hasAt = r.number(beforeKerf)
	n.Kerf, hasKerf = r.number(opening)
	return n, n.Axis >= 0 && hasAt && hasKerf && n.Kerf <= maxKerf
}

// number reads a number in decimal digits, and what stands behind it.
func (r *reader) number(end string) (int, bool) {
	digits, rest, found := strings.Cut(r.rest, end)
	n, err := strconv.Atoi(digits)
	r.rest = rest
	return n, found && err == nil && n >= 0 && strconv.Itoa(n) == digits
}

func (r *reader) skip(prefix string) bool {
	rest, found := strings.CutPrefix(r.rest, prefix)
	if found {
		r.rest = rest
	}
	return found
}
