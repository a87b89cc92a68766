package graph

import "slices"

// Ite is what tells as yes where f is true, and as no where it is false. It makes no nodes but those of its answer.
func (g *Graph) Ite(f, yes, no Ref) Ref {
	if f == True || yes == no {
		return yes
	}
	if f == False {
		return no
	}
	key := [3]Ref{f, yes, no}
	if result, found := g.results[key]; found {
		return result
	}
	level := min(g.level(f), g.level(yes), g.level(no))
	part := func(value bool) Ref {
		return g.Ite(g.branch(f, level, value), g.branch(yes, level, value), g.branch(no, level, value))
	}
	result := g.join(g.order[level], part(true), part(false))
	g.remember(key, result)
	return result
}

func (g *Graph) remember(key [3]Ref, result Ref) {
	if len(g.results) >= mostResults {
		clear(g.results)
	}
	g.results[key] = result
}

// Restrict is what f is when the variable has this value. It makes no nodes but those of its answer.
func (g *Graph) Restrict(f Ref, variable int, value bool) Ref {
	return g.restrict(f, slices.Index(g.order, variable), value)
}

func (g *Graph) restrict(f Ref, level int, value bool) Ref {
	top := g.level(f)
	if top >= level {
		return g.branch(f, level, value)
	}
	then := g.restrict(g.branch(f, top, true), level, value)
	otherwise := g.restrict(g.branch(f, top, false), level, value)
	return g.join(g.order[top], then, otherwise)
}

// Eval is what f tells when variable i has the value of the assignment's bit i.
func (g *Graph) Eval(f Ref, assignment int) bool {
	for !f.constant() {
		value := assignment >> g.nodes[f.number()].variable & 1
		f = g.branch(f, g.level(f), value == 1)
	}
	return f == True
}

// Support tells the variables on which f hangs, in the order.
func (g *Graph) Support(f Ref) []int {
	asked := make([]bool, len(g.order))
	for number, reached := range g.reach(slices.Values([]Ref{f})) {
		if reached {
			asked[g.nodes[number].variable] = true
		}
	}
	var support []int
	for _, variable := range g.order {
		if asked[variable] {
			support = append(support, variable)
		}
	}
	return support
}
