package copse

import (
	"maps"
	"slices"

	"copse/api"
	"copse/graph"
)

// Order tells the order (P7).
func (c *Copse) Order() []string {
	var order []string
	for _, variable := range c.graph.Order() {
		order = append(order, c.names[variable])
	}
	return order
}

// Move moves a variable (P8).
func (c *Copse) Move(name string, to int) api.Errno {
	variable := slices.Index(c.names, name)
	if variable < 0 {
		return api.ErrName
	}
	if to < 0 || to >= len(c.names) {
		return api.ErrArg
	}
	moved := c.moved(variable, to)
	if moved.Size() > c.cap {
		return api.ErrFull
	}
	c.graph = moved
	return api.OK
}

// Sift looks for a good order (P8).
func (c *Copse) Sift() {
	for variable := range c.names {
		c.graph = c.sifted(variable)
	}
}

// sifted is the smallest graph that a move of the variable gives. It is within the cap, as the place where the variable is already is one of those that are tried.
func (c *Copse) sifted(variable int) *graph.Graph {
	best := c.moved(variable, 0)
	for to := 1; to < len(c.names); to++ {
		if moved := c.moved(variable, to); moved.Size() < best.Size() {
			best = moved
		}
	}
	return best
}

// moved is the graph as a move makes it. The copse's own stays as it is: moved there and back, it would not have all its numbers again, and a refused Move must leave no trace.
func (c *Copse) moved(variable, to int) *graph.Graph {
	moved := c.graph.Clone()
	moved.Move(variable, to)
	moved.Sweep(maps.Keys(c.live))
	return moved
}

// Collect lets handles go (P7).
func (c *Copse) Collect(keep []int) api.Errno {
	if !c.areLive(keep) {
		return api.ErrHandle
	}
	c.live = liveConstants()
	for f := range refs(keep) {
		c.live[f] = struct{}{}
	}
	c.graph.Sweep(maps.Keys(c.live))
	return api.OK
}

// Live counts the nodes of all live handles (P7).
func (c *Copse) Live() int { return c.graph.Size() }
