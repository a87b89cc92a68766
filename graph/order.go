package graph

import (
	"maps"
	"slices"
)

// Clone makes a graph of its own with the same nodes under the same numbers.
func (g *Graph) Clone() *Graph {
	return &Graph{
		order:   slices.Clone(g.order),
		nodes:   slices.Clone(g.nodes),
		numbers: maps.Clone(g.numbers),
		free:    slices.Clone(g.free),
		results: map[[3]Ref]Ref{},
	}
}

// Order tells the variables, by level.
func (g *Graph) Order() []int { return slices.Clone(g.order) }

// Move brings a variable to a level; the others keep their order. Every Ref stands for the same function as before, but there may be nodes that nothing reaches any more: Sweep drops them.
func (g *Graph) Move(variable, to int) {
	level := slices.Index(g.order, variable)
	for ; level < to; level++ {
		g.swap(level)
	}
	for ; level > to; level-- {
		g.swap(level - 1)
	}
}

// swap lets the variables of a level and of the next change places.
func (g *Graph) swap(level int) {
	for number := range g.nodes {
		n := g.nodes[number]
		if n.variable == g.order[level] && (g.level(n.then) == level+1 || g.level(n.otherwise) == level+1) {
			g.turn(number, level)
		}
	}
	g.order[level], g.order[level+1] = g.order[level+1], g.order[level]
}

// turn lets a node of this level, which hangs on the next level's variable, ask that one first. It keeps its number, as it is the same function.
func (g *Graph) turn(number, level int) {
	old := g.nodes[number]
	part := func(value bool) Ref {
		return g.join(old.variable, g.branch(old.then, level+1, value), g.branch(old.otherwise, level+1, value))
	}
	turned := node{g.order[level+1], part(true), part(false)}
	delete(g.numbers, old)
	g.numbers[turned] = number
	g.nodes[number] = turned
}
