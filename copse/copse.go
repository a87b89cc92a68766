// Package copse: truth functions as graphs that share, in any order of their variables: see DOC.md.
package copse

import (
	"maps"
	"slices"
	"strings"

	"copse/api"
	"copse/graph"
	"copse/script"
)

// Copse keeps functions.
type Copse struct {
	cap   int
	names []string // of the variables, by their numbers
	graph *graph.Graph
	live  map[graph.Ref]struct{} // the live handles; the graph has their nodes and no others between calls
}

// New makes a copse (P3).
func New(cap int) (*Copse, api.Errno) {
	if cap < 1 || cap > api.MaxCap {
		return nil, api.ErrArg
	}
	return &Copse{
		cap:   cap,
		graph: graph.New(),
		live:  liveConstants(),
	}, api.OK
}

// Var makes a variable (P4).
func (c *Copse) Var(name string) (int, api.Errno) {
	switch {
	case !script.IsName(name) || slices.Contains(c.names, name):
		return 0, api.ErrName
	case len(c.names) == api.MaxVars:
		return 0, api.ErrMany
	case c.graph.Size() == c.cap: // asked ahead, as a variable could not be taken back; its function is always one new node
		return 0, api.ErrFull
	}
	c.names = append(c.names, strings.Clone(name))
	return c.tell(c.graph.AddVariable())
}

// Const is a constant (P3).
func (c *Copse) Const(v bool) int {
	if v {
		return int(graph.True)
	}
	return int(graph.False)
}

func liveConstants() map[graph.Ref]struct{} {
	return map[graph.Ref]struct{}{graph.True: {}, graph.False: {}}
}

// isLive holds for no number below 0, as the graph has none.
func (c *Copse) isLive(f int) bool {
	_, found := c.live[graph.Ref(f)]
	return found
}

func (c *Copse) areLive(fs []int) bool {
	return !slices.ContainsFunc(fs, func(f int) bool { return !c.isLive(f) })
}

// tell makes an answer live, if there is room for it.
func (c *Copse) tell(answer graph.Ref) (int, api.Errno) {
	if e := c.keep(answer); e != api.OK {
		return 0, e
	}
	return int(answer), api.OK
}

// keep makes answers live, if there is room for their nodes, which are the only ones that were made since the last call.
func (c *Copse) keep(answers ...graph.Ref) api.Errno {
	if c.graph.Size() > c.cap {
		c.graph.Sweep(maps.Keys(c.live))
		return api.ErrFull
	}
	for _, answer := range answers {
		c.live[answer] = struct{}{}
	}
	return api.OK
}
