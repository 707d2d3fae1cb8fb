package query

import (
	"gangsaw/api"
	"gangsaw/lexer"
)

// parser reads tokens from left to right; it stops at the first fault.
type parser struct {
	tokens []api.Token
	at     int
	nodes  []Node
	fault  api.Fault
}

// Parse returns the query of a text, or the first fault.
func Parse(s string) ([]Node, api.Fault) {
	scanned, f := lexer.Scan(s)
	switch {
	case f.Code != api.OK:
		return nil, api.Fault{Code: f.Code, Line: 1, Col: f.Col}
	case scanned.Heading:
		return nil, api.Fault{Code: api.ErrSyntax, Line: 1, Col: 1}
	}
	p := &parser{tokens: scanned.Tokens}
	p.relation()
	if !p.failed() && p.at < len(p.tokens) {
		p.fail(api.ErrSyntax)
	}
	if p.failed() {
		return nil, p.fault
	}
	return p.nodes, api.Fault{}
}

func (p *parser) failed() bool { return p.fault.Code != api.OK }

// fail notes a fault at the next token, or at the last one if there is none.
func (p *parser) fail(code api.Errno) {
	if p.failed() {
		return
	}
	p.fault = api.Fault{Code: code, Line: 1, Col: 1}
	if i := min(p.at, len(p.tokens)-1); i >= 0 {
		p.fault.Col = p.tokens[i].At
	}
}

// is reports whether the token behind so many is a sign.
func (p *parser) is(behind int, sign string) bool {
	i := p.at + behind
	return i < len(p.tokens) && p.tokens[i].Kind == api.TokSign && p.tokens[i].Text == sign
}

// skip takes a sign.
func (p *parser) skip(sign string) {
	if p.failed() {
		return
	}
	if !p.is(0, sign) {
		p.fail(api.ErrSyntax)
		return
	}
	p.at++
}

// isCall reports whether the next token is the word of a node.
func (p *parser) isCall() bool {
	return p.at < len(p.tokens) && p.tokens[p.at].Kind == api.TokWord && p.is(1, opening)
}

// call takes the word of a node and the parenthesis behind it, and appends the node.
func (p *parser) call(kinds map[string]int) int {
	kind, isKnown := kinds[p.tokens[p.at].Text]
	if !isKnown {
		p.fail(api.ErrSyntax)
		return 0
	}
	p.at += 2
	return p.push(Node{Kind: kind})
}

func (p *parser) push(n Node) int {
	p.nodes = append(p.nodes, n)
	return len(p.nodes) - 1
}

// name takes the name of a table or column.
func (p *parser) name() string {
	if p.failed() {
		return ""
	}
	if p.at >= len(p.tokens) || p.tokens[p.at].Kind != api.TokWord || p.isCall() {
		p.fail(api.ErrSyntax)
		return ""
	}
	word := p.tokens[p.at].Text
	if !lexer.Name(word) {
		p.fail(api.ErrName)
		return ""
	}
	p.at++
	return word
}

// relation takes a relation, and returns its node.
func (p *parser) relation() int {
	if p.failed() {
		return 0
	}
	if !p.isCall() {
		return p.push(Node{Kind: From, Name: p.name()})
	}
	i := p.call(relationWords())
	if p.failed() {
		return 0
	}
	left := p.relation()
	p.nodes[i].Left = left
	switch p.nodes[i].Kind {
	case Where:
		p.skip(comma)
		test := p.test()
		p.nodes[i].Test = test
	case Join, Union, Minus:
		p.skip(comma)
		right := p.relation()
		p.nodes[i].Right = right
	case Select:
		p.skip(comma)
		p.nodes[i].Columns = []string{p.name()}
	case Sum:
		p.skip(comma)
		p.nodes[i].Name = p.name()
	}
	p.columns(i)
	p.skip(closing)
	return i
}

// columns takes further columns of a node that may have some.
func (p *parser) columns(i int) {
	if kind := p.nodes[i].Kind; kind != Select && kind != Count && kind != Sum {
		return
	}
	for !p.failed() && p.is(0, comma) {
		p.at++
		p.nodes[i].Columns = append(p.nodes[i].Columns, p.name())
	}
}

// test takes a test, and returns its node.
func (p *parser) test() int {
	if p.failed() {
		return 0
	}
	if !p.isCall() {
		return p.compare()
	}
	i := p.call(testWords())
	if p.failed() {
		return 0
	}
	left := p.test()
	p.nodes[i].Left = left
	if p.nodes[i].Kind != Not {
		p.skip(comma)
		right := p.test()
		p.nodes[i].Right = right
	}
	p.skip(closing)
	return i
}

func (p *parser) compare() int {
	n := Node{Kind: Compare, Name: p.name()}
	if p.failed() {
		return 0
	}
	if !p.is(0, equal) && !p.is(0, less) && !p.is(0, greater) {
		p.fail(api.ErrSyntax)
		return 0
	}
	n.Op = p.tokens[p.at].Text
	p.at++
	if p.at >= len(p.tokens) {
		p.fail(api.ErrSyntax)
		return 0
	}
	switch t := p.tokens[p.at]; t.Kind {
	case api.TokNumber:
		n.Cell.N = t.N
		p.at++
	case api.TokText:
		n.Cell = Cell{Text: true, S: t.Text}
		p.at++
	default:
		n.Other = p.name()
	}
	return p.push(n)
}
