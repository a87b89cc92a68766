package copse

import (
	"iter"
	"slices"

	"copse/api"
	"copse/graph"
)

// Not is the opposite (P5).
func (c *Copse) Not(f int) (int, api.Errno) {
	if !c.isLive(f) {
		return 0, api.ErrHandle
	}
	return c.tell(graph.Ref(f).Not())
}

// Ite is g where f is true, else h (P5).
func (c *Copse) Ite(f int, g int, h int) (int, api.Errno) {
	if !c.isLive(f) || !c.isLive(g) || !c.isLive(h) {
		return 0, api.ErrHandle
	}
	return c.tell(c.graph.Ite(graph.Ref(f), graph.Ref(g), graph.Ref(h)))
}

// Restrict gives a variable a value (P5).
func (c *Copse) Restrict(f int, name string, v bool) (int, api.Errno) {
	if !c.isLive(f) {
		return 0, api.ErrHandle
	}
	variable := slices.Index(c.names, name)
	if variable < 0 {
		return 0, api.ErrName
	}
	return c.tell(c.graph.Restrict(graph.Ref(f), variable, v))
}

// Eval tells what a function tells (P6).
func (c *Copse) Eval(f int, assignment int) (bool, api.Errno) {
	if !c.isLive(f) {
		return false, api.ErrHandle
	}
	if assignment < 0 || assignment >= 1<<len(c.names) {
		return false, api.ErrArg
	}
	return c.graph.Eval(graph.Ref(f), assignment), api.OK
}

// Support tells on what a function hangs (P6).
func (c *Copse) Support(f int) ([]string, api.Errno) {
	if !c.isLive(f) {
		return nil, api.ErrHandle
	}
	var support []string
	for _, variable := range c.graph.Support(refs([]int{f})) {
		support = append(support, c.names[variable])
	}
	return support, api.OK
}

// Nodes counts nodes (P6).
func (c *Copse) Nodes(fs []int) (int, api.Errno) {
	if !c.areLive(fs) {
		return 0, api.ErrHandle
	}
	return c.graph.Count(refs(fs)), api.OK
}

func refs(fs []int) iter.Seq[graph.Ref] {
	return func(yield func(graph.Ref) bool) {
		for _, f := range fs {
			if !yield(graph.Ref(f)) {
				return
			}
		}
	}
}
