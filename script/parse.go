package script

import (
	"slices"

	"copse/api"
	"copse/graph"
)

// A reader tells the parts of a script, one after the other. Where something else stands, or nothing, it may tell anything, as Read looks at the whole.
type reader interface {
	vars() int // how many
	name() string
	nodes() int // how many
	level() int
	roots() int // how many
	reference() graph.Ref
}

func newReader(format int, bytes string) reader {
	if format == api.Binary {
		return newBinaryReader(bytes)
	}
	return newTextReader(bytes)
}

// mostNodes: a function has at most one node for each way to give values to the first so many variables (0 or more, but not all).
const mostNodes = api.MaxRoots * (1<<api.MaxVars - 1)

// parser makes functions of what a reader tells.
type parser struct {
	reader
	script    Script
	variables []graph.Ref // their functions
	numbered  []graph.Ref // what the numbers stand for, as far as they are read
}

// parse tells the functions of a script, as far as its parts can be understood. It may still be written in a wrong way.
func parse(r reader) (Script, bool) {
	p := &parser{
		reader:   r,
		script:   Script{Graph: graph.New()},
		numbered: []graph.Ref{graph.True},
	}
	ok := p.readVars() && p.readNodes() && p.readRoots()
	return p.script, ok
}

func (p *parser) readVars() bool {
	count := p.vars()
	if count > api.MaxVars {
		return false
	}
	for range count {
		name := p.name()
		if !IsName(name) || slices.Contains(p.script.Names, name) {
			return false
		}
		p.script.Names = append(p.script.Names, name)
		p.variables = append(p.variables, p.script.Graph.AddVariable())
	}
	return true
}

func (p *parser) readNodes() bool {
	count := p.nodes()
	if count > mostNodes {
		return false
	}
	for range count {
		level, then, otherwise := p.level(), p.reference(), p.reference()
		if level < 0 || level >= len(p.variables) || !p.knows(then) || !p.knows(otherwise) {
			return false
		}
		f := p.script.Graph.Ite(p.variables[level], p.function(then), p.function(otherwise))
		p.numbered = append(p.numbered, f)
	}
	return true
}

func (p *parser) readRoots() bool {
	count := p.roots()
	if count < 1 || count > api.MaxRoots {
		return false
	}
	for range count {
		root := p.reference()
		if !p.knows(root) {
			return false
		}
		p.script.Roots = append(p.script.Roots, p.function(root))
	}
	return true
}

func (p *parser) knows(reference graph.Ref) bool {
	return reference.Number() >= 0 && reference.Number() < len(p.numbered)
}

func (p *parser) function(reference graph.Ref) graph.Ref {
	return p.numbered[reference.Number()].TurnedLike(reference)
}
