// Package graph keeps truth functions as nodes that share, in an order of the variables.
package graph

import (
	"iter"
	"slices"
)

// A node asks a variable. Its Then is never turned: so of a function and its opposite only one has a node, the one that is true when all variables are, and this one does not hang on the order.
type node struct {
	variable        int
	then, otherwise Ref
}

// mostResults bounds what is kept for speed.
const mostResults = 4096

// Graph keeps the nodes of the functions that were asked for since the last Sweep, and of those that it kept.
type Graph struct {
	order   []int          // the variables, by level
	nodes   []node         // by number; where there is no node, node{}, which join never makes
	numbers map[node]int   // the numbers of the nodes
	free    []int          // the numbers below len(nodes) without a node, the lowest last
	results map[[3]Ref]Ref // what Ite answered; all of these have nodes
}

// New makes a graph without variables and without nodes.
func New() *Graph {
	return &Graph{
		nodes:   make([]node, 1),
		numbers: map[node]int{},
		results: map[[3]Ref]Ref{},
	}
}

// AddVariable makes a variable, the last in the order, and tells its function.
func (g *Graph) AddVariable() Ref {
	variable := len(g.order)
	g.order = append(g.order, variable)
	return g.join(variable, True, False)
}

// Size tells how many nodes there are.
func (g *Graph) Size() int { return len(g.numbers) }

// Count tells how many nodes some functions have together.
func (g *Graph) Count(fs iter.Seq[Ref]) int {
	count := 0
	for _, reached := range g.reach(fs) {
		if reached {
			count++
		}
	}
	return count
}

// Sweep drops the nodes that none of these functions reaches.
func (g *Graph) Sweep(keep iter.Seq[Ref]) {
	// A number that is given back may come to stand for another function.
	clear(g.results)
	g.free = g.free[:0]
	reached := g.reach(keep)
	// Downwards, so that the lowest number is given next, whatever was dropped earlier: a refused call must leave no trace in later numbers.
	for number := len(g.nodes) - 1; number > 0; number-- {
		if !reached[number] {
			delete(g.numbers, g.nodes[number])
			g.nodes[number] = node{}
			g.free = append(g.free, number)
		}
	}
}

// reach tells of each number whether its node is one of these functions'.
func (g *Graph) reach(fs iter.Seq[Ref]) []bool {
	reached := make([]bool, len(g.nodes))
	for f := range fs {
		g.mark(f, reached)
	}
	return reached
}

func (g *Graph) mark(f Ref, reached []bool) {
	if f.constant() || reached[f.Number()] {
		return
	}
	reached[f.Number()] = true
	n := g.nodes[f.Number()]
	g.mark(n.then, reached)
	g.mark(n.otherwise, reached)
}

// join is the function that tells as then where the variable is true, and as otherwise where it is false; both hang on later variables alone.
func (g *Graph) join(variable int, then, otherwise Ref) Ref {
	if then == otherwise {
		return then
	}
	n := node{variable, then.Plain(), otherwise.TurnedLike(then)}
	number, found := g.numbers[n]
	if !found {
		number = g.add(n)
	}
	return Ref(2 * number).TurnedLike(then)
}

func (g *Graph) add(n node) int {
	number := len(g.nodes)
	if last := len(g.free) - 1; last >= 0 {
		number = g.free[last]
		g.free = g.free[:last]
		g.nodes[number] = n
	} else {
		g.nodes = append(g.nodes, n)
	}
	g.numbers[n] = number
	return number
}

// level is that of the function's node; that of the constants is behind all others.
func (g *Graph) level(f Ref) int {
	if f.constant() {
		return len(g.order)
	}
	return slices.Index(g.order, g.nodes[f.Number()].variable)
}

// branch is what f is when the variable of this level has a value; f hangs on none ahead of it.
func (g *Graph) branch(f Ref, level int, value bool) Ref {
	if g.level(f) != level {
		return f
	}
	n := g.nodes[f.Number()]
	if value {
		return n.then.TurnedLike(f)
	}
	return n.otherwise.TurnedLike(f)
}
