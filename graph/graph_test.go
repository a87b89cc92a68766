package graph

import (
	"maps"
	"slices"
	"testing"
)

// variables makes a graph with an order of its own, and the functions of the variables.
func variables(order ...int) (*Graph, []Ref) {
	g := New()
	g.order = order
	vs := make([]Ref, len(order))
	for v := range vs {
		vs[v] = g.join(v, True, False)
	}
	return g, vs
}

// every tells what comes out by one Ite of the constants, the variables and their opposites.
func every(g *Graph, vs []Ref) []Ref {
	base := []Ref{True, False}
	for _, v := range vs {
		base = append(base, v, v.Not())
	}
	var fs []Ref
	for _, f := range base {
		for _, yes := range base {
			for _, no := range base {
				fs = append(fs, g.Ite(f, yes, no))
			}
		}
	}
	return fs
}

func support(g *Graph, fs ...Ref) []int { return g.Support(slices.Values(fs)) }

var orders = [][]int{{0, 1, 2}, {0, 2, 1}, {1, 0, 2}, {1, 2, 0}, {2, 0, 1}, {2, 1, 0}}

func TestIteInEachOrder(t *testing.T) {
	for _, order := range orders {
		g, vs := variables(order...)
		known := map[[8]bool]Ref{}
		for _, f := range every(g, vs) {
			var tells [8]bool
			for a := range tells {
				tells[a] = g.Eval(f, a)
			}
			if other, found := known[tells]; found && other != f {
				t.Fatalf("order %v: one function is %d and %d", order, other, f)
			}
			known[tells] = f
		}
		for a := range 8 {
			if g.Eval(g.Ite(vs[0], vs[1], vs[2]), a) != (a&1 == 1 && a&2 == 2 || a&1 == 0 && a&4 == 4) {
				t.Errorf("order %v: Ite at %d", order, a)
			}
		}
	}
}

func TestRestrictInEachOrder(t *testing.T) {
	for _, order := range orders {
		g, vs := variables(order...)
		for _, f := range every(g, vs) {
			for v := range vs {
				low, high := g.Restrict(f, v, false), g.Restrict(f, v, true)
				if g.Ite(vs[v], high, low) != f {
					t.Fatalf("order %v: Restrict of %d by %d", order, f, v)
				}
				if hangs := slices.Contains(support(g, f), v); hangs != (low != high) {
					t.Errorf("order %v: Support of %d: %v", order, f, support(g, f))
				}
			}
		}
	}
}

func TestSupportIsInTheOrder(t *testing.T) {
	for _, order := range orders {
		g, vs := variables(order...)
		if got := support(g, g.Ite(vs[0], vs[1], vs[2])); !slices.Equal(got, order) {
			t.Errorf("order %v: %v", order, got)
		}
	}
}

func TestTablesAgree(t *testing.T) {
	for _, order := range orders {
		g, vs := variables(order...)
		every(g, vs)
		check(t, g)
	}
}

// The room that an answer takes is measured by all nodes that were made for it.
func TestOnlyTheAnswersNodesAreMade(t *testing.T) {
	for _, order := range orders {
		g, vs := variables(order...)
		kept := map[Ref]int{}
		for _, v := range vs {
			kept[v] = 0
		}
		for _, f := range every(g, vs) {
			kept[f] = 0
			for v := range vs {
				kept[g.Restrict(f, v, true)] = 0
				kept[g.Restrict(f, v, false)] = 0
			}
		}
		if got := g.Count(maps.Keys(kept)); got != g.Size() {
			t.Errorf("order %v: %d nodes, %d of them of answers", order, g.Size(), got)
		}
	}
}

func TestSweep(t *testing.T) {
	g, vs := variables(0, 1, 2)
	kept := g.Ite(vs[0], vs[1], False)
	before := maps.Clone(g.numbers)
	keep := func() { g.Sweep(slices.Values([]Ref{kept, vs[0], vs[1], vs[2]})) }
	for range 3 {
		made := g.Ite(kept, vs[2], False)
		if made.Number() != len(before)+2 {
			t.Errorf("a number was not given back: %d", made.Number())
		}
		keep()
		if !maps.Equal(g.numbers, before) || len(g.results) != 0 {
			t.Errorf("after Sweep: %v, %v, want %v", g.numbers, g.results, before)
		}
	}
	g.Sweep(slices.Values([]Ref{vs[2].Not()}))
	if g.Size() != 1 || g.Eval(vs[2], 4) != true || g.Eval(vs[2], 3) != false {
		t.Errorf("the opposite's node is not kept: %d nodes", g.Size())
	}
	g.Sweep(slices.Values([]Ref{True, False}))
	if g.Size() != 0 {
		t.Errorf("nothing kept: %d nodes", g.Size())
	}
}

// A dropped node's number may be given to the same node at another place: the old place must not drop it again.
func TestSweepTwice(t *testing.T) {
	g, vs := variables(0, 1, 2)
	g.Sweep(slices.Values([]Ref{vs[1]}))
	if got := g.join(2, True, False); got != vs[0] {
		t.Fatalf("the lowest number is not given first: %d", got)
	}
	moved := vs[0]
	for range 2 {
		g.Sweep(slices.Values([]Ref{vs[1], moved}))
		if got := g.join(2, True, False); got != moved || g.Size() != 2 {
			t.Errorf("a kept node was dropped: %d, %d nodes", got, g.Size())
		}
	}
}

func TestResultsAreBounded(t *testing.T) {
	g := New()
	for i := range 3 * mostResults {
		key := [3]Ref{Ref(i), True, False}
		g.remember(key, Ref(i))
		if len(g.results) > mostResults || g.results[key] != Ref(i) {
			t.Fatalf("%d results are kept", len(g.results))
		}
	}
}
