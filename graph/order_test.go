package graph

import (
	"maps"
	"slices"
	"testing"
)

// check holds the tables of a graph against each other.
func check(t *testing.T, g *Graph) {
	t.Helper()
	for n, number := range g.numbers {
		f := Ref(2 * number)
		if g.nodes[number] != n {
			t.Fatalf("order %v: the number %d is %v and %v", g.order, number, n, g.nodes[number])
		}
		if g.level(f) >= g.level(n.then) || g.level(f) >= g.level(n.otherwise) || n.then != n.then.Plain() || n.then == n.otherwise {
			t.Fatalf("order %v: no node should be %v", g.order, n)
		}
	}
	if len(g.numbers)+len(g.free)+1 != len(g.nodes) {
		t.Fatalf("order %v: %d nodes and %d free numbers of %d", g.order, len(g.numbers), len(g.free), len(g.nodes))
	}
}

// tells is a function of three variables, written out.
func tells(g *Graph, f Ref) [8]bool {
	var l [8]bool
	for a := range l {
		l[a] = g.Eval(f, a)
	}
	return l
}

func TestMoveKeepsFunctions(t *testing.T) {
	for _, order := range orders {
		for variable := range order {
			for to := range order {
				g, vs := variables(slices.Clone(order)...)
				fs := every(g, vs)
				want := map[Ref][8]bool{}
				for _, f := range fs {
					want[f] = tells(g, f)
				}
				g.Move(variable, to)
				check(t, g)
				g.Sweep(slices.Values(fs))
				check(t, g)
				for f := range want {
					if tells(g, f) != want[f] {
						t.Fatalf("order %v, Move of %d to %d: the function %d is another", order, variable, to, f)
					}
				}
			}
		}
	}
}

// A graph that was moved has the same nodes as one that was made in this order.
func TestMoveLeavesNoMoreNodes(t *testing.T) {
	build := func(g *Graph, vs []Ref) Ref { return g.Ite(vs[0], vs[1], g.Ite(vs[2], vs[1].Not(), True)) }
	for _, order := range orders {
		fresh, vs := variables(order...)
		f := build(fresh, vs)
		want := fresh.Count(slices.Values([]Ref{f}))
		moved, vs := variables(0, 1, 2)
		f = build(moved, vs)
		for level, variable := range order {
			moved.Move(variable, level)
		}
		moved.Sweep(slices.Values([]Ref{f}))
		check(t, moved)
		if !slices.Equal(moved.Order(), order) || moved.Size() != want {
			t.Errorf("order %v: %v, %d nodes, want %d", order, moved.Order(), moved.Size(), want)
		}
	}
}

func TestMoveKeepsTheOthersInOrder(t *testing.T) {
	for _, k := range []struct {
		variable, to int
		want         []int
	}{
		{2, 0, []int{2, 3, 1, 0}},
		{3, 3, []int{1, 2, 0, 3}},
		{1, 1, []int{3, 1, 2, 0}},
		{0, 1, []int{3, 0, 1, 2}},
		{2, 2, []int{3, 1, 2, 0}},
	} {
		g, _ := variables(3, 1, 2, 0)
		g.Move(k.variable, k.to)
		if !slices.Equal(g.Order(), k.want) {
			t.Errorf("Move of %d to %d: %v, want %v", k.variable, k.to, g.Order(), k.want)
		}
	}
}

func TestCloneIsApart(t *testing.T) {
	g, vs := variables(0, 1, 2)
	f := g.Ite(vs[0], vs[1], vs[2])
	g.Sweep(slices.Values([]Ref{f}))
	order, nodes, numbers, free := []int{0, 1, 2}, slices.Clone(g.nodes), maps.Clone(g.numbers), slices.Clone(g.free)
	same := func(h *Graph) bool {
		return slices.Equal(h.order, order) && slices.Equal(h.nodes, nodes) && maps.Equal(h.numbers, numbers) && slices.Equal(h.free, free)
	}
	clone := g.Clone()
	if !same(clone) {
		t.Errorf("not the same: %v", clone)
	}
	clone.Move(0, 2)
	clone.AddVariable()
	clone.Sweep(slices.Values([]Ref{True}))
	clone.join(2, True, False)
	if !same(g) || len(g.results) != 0 {
		t.Errorf("what is done to a clone is seen: %v", g)
	}
	g.Order()[0] = 7
	if !same(g) {
		t.Errorf("an order that was told is the graph's own: %v", g)
	}
}

// Results are of the graph that they were kept in: the numbers of another may come to stand for other functions.
func TestCloneHasItsOwnResults(t *testing.T) {
	g, vs := variables(0, 1, 2)
	g.Ite(vs[0], vs[1], vs[2])
	kept := maps.Clone(g.results)
	clone := g.Clone()
	clone.Ite(vs[0], vs[2], vs[1])
	if !maps.Equal(g.results, kept) {
		t.Errorf("results went over: %v", g.results)
	}
	clone.Sweep(slices.Values([]Ref{True}))
	if !maps.Equal(g.results, kept) {
		t.Errorf("results were cleared: %v", g.results)
	}
}
