package graph

import (
	"iter"
	"slices"
)

// Ite is what tells as yes where f is true, and as no where it is false. It makes no nodes but those of its answer.
func (g *Graph) Ite(f, yes, no Ref) Ref {
	if f == True || yes == no {
		return yes
	}
	if f == False {
		return no
	}
	key := [3]Ref{f, yes, no}
	if result, found := g.results[key]; found {
		return result
	}
	level := min(g.level(f), g.level(yes), g.level(no))
	part := func(value bool) Ref {
		return g.Ite(g.branch(f, level, value), g.branch(yes, level, value), g.branch(no, level, value))
	}
	result := g.join(g.order[level], part(true), part(false))
	g.remember(key, result)
	return result
}

func (g *Graph) remember(key [3]Ref, result Ref) {
	if len(g.results) >= mostResults {
		clear(g.results)
	}
	g.results[key] = result
}

// Restrict is what f is when the variable has this value. It makes no nodes but those of its answer.
func (g *Graph) Restrict(f Ref, variable int, value bool) Ref {
	return g.restrict(f, slices.Index(g.order, variable), value)
}

func (g *Graph) restrict(f Ref, level int, value bool) Ref {
	top := g.level(f)
	if top >= level {
		return g.branch(f, level, value)
	}
	then := g.restrict(g.branch(f, top, true), level, value)
	otherwise := g.restrict(g.branch(f, top, false), level, value)
	return g.join(g.order[top], then, otherwise)
}

// Eval is what f tells when variable i has the value of the assignment's bit i.
func (g *Graph) Eval(f Ref, assignment int) bool {
	for !f.constant() {
		value := assignment >> g.nodes[f.Number()].variable & 1
		f = g.branch(f, g.level(f), value == 1)
	}
	return f == True
}

// Copy is what f is in another graph, whose variable i is variables[i] here. It makes no nodes here but those of its answer; the other graph may get some on the way.
func (g *Graph) Copy(other *Graph, f Ref, variables []int) Ref {
	return g.copyFrom(0, other, f, variables)
}

// copyFrom copies what hangs on no variable ahead of the level.
func (g *Graph) copyFrom(level int, other *Graph, f Ref, variables []int) Ref {
	if f.constant() {
		return f
	}
	there := slices.Index(variables, g.order[level])
	if there < 0 {
		return g.copyFrom(level+1, other, f, variables)
	}
	part := func(value bool) Ref {
		return g.copyFrom(level+1, other, other.Restrict(f, there, value), variables)
	}
	return g.join(g.order[level], part(true), part(false))
}

// Support tells the variables on which some of these functions hang, in the order.
func (g *Graph) Support(fs iter.Seq[Ref]) []int {
	asked := make([]bool, len(g.order))
	for number, reached := range g.reach(fs) {
		if reached {
			asked[g.nodes[number].variable] = true
		}
	}
	var support []int
	for _, variable := range g.order {
		if asked[variable] {
			support = append(support, variable)
		}
	}
	return support
}
