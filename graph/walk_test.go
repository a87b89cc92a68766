package graph

import (
	"slices"
	"testing"
)

func walk(g *Graph, fs ...Ref) []Node {
	var l []Node
	for n := range g.Walk(slices.Values(fs)) {
		l = append(l, n)
	}
	return l
}

func TestWalkOrder(t *testing.T) {
	g, vs := variables(0, 1, 2)
	a, b, c := vs[0], vs[1], vs[2]
	f := g.Ite(a, b, c.Not())
	one := func(self Ref, variable int, then, otherwise Ref) Node {
		return Node{self.Plain(), variable, then, otherwise}
	}
	for k, s := range []struct {
		fs   []Ref
		want []Node
	}{
		{nil, nil},
		{[]Ref{True, False}, nil},
		{[]Ref{b}, []Node{one(b, 1, True, False)}},
		{[]Ref{b.Not(), b}, []Node{one(b, 1, True, False)}},
		{[]Ref{b, a}, []Node{one(b, 1, True, False), one(a, 0, True, False)}},
		{[]Ref{f.Not(), f}, []Node{one(b, 1, True, False), one(c, 2, True, False), one(f, 0, b, c.Not())}},
		{[]Ref{c, False, f, a}, []Node{one(c, 2, True, False), one(b, 1, True, False), one(f, 0, b, c.Not()), one(a, 0, True, False)}},
	} {
		if got := walk(g, s.fs...); !slices.Equal(got, s.want) {
			t.Errorf("line %d: %v, want %v", k, got, s.want)
		}
	}
}

// Each node is told once, behind those that it needs.
func TestWalkAll(t *testing.T) {
	for _, order := range orders {
		g, vs := variables(order...)
		told := map[Ref]bool{True: true}
		for _, n := range walk(g, every(g, vs)...) {
			if told[n.Self] || !told[n.Then] || !told[n.Else.Plain()] {
				t.Fatalf("order %v: %v, behind %v", order, n, told)
			}
			if g.numbers[node{n.Variable, n.Then, n.Else}] != n.Self.Number() {
				t.Fatalf("order %v: there is no node %v", order, n)
			}
			told[n.Self] = true
		}
		if len(told) != g.Size()+1 {
			t.Errorf("order %v: %d nodes of %d", order, len(told)-1, g.Size())
		}
	}
}

// The channel has room for all nodes, so that nothing is left waiting if they are not taken out.
func TestWalkRoom(t *testing.T) {
	g, vs := variables(0, 1, 2)
	fs := slices.Values([]Ref{g.Ite(vs[0], vs[1], vs[2]), vs[1]})
	if nodes := g.Walk(fs); cap(nodes) != g.Count(fs) {
		t.Errorf("room for %d of %d", cap(nodes), g.Count(fs))
	}
}

func TestSupportOfSeveral(t *testing.T) {
	for _, order := range orders {
		g, vs := variables(order...)
		if got := support(g, vs[2], vs[0].Not(), True, vs[1], vs[1]); !slices.Equal(got, order) {
			t.Errorf("order %v: %v", order, got)
		}
		if got := support(g); got != nil {
			t.Errorf("order %v: of nothing: %v", order, got)
		}
	}
}

// From each order into each, under other numbers, beside a variable that the other graph has not.
func TestCopyInEachOrder(t *testing.T) {
	for _, from := range orders {
		g, vs := variables(from...)
		fs := every(g, vs)
		want := map[Ref][8]bool{}
		for _, f := range fs {
			want[f] = tells(g, f)
		}
		for _, places := range orders {
			to := New()
			to.order = []int{places[2], 3, places[0], places[1]}
			copies := map[[8]bool]Ref{}
			var made []Ref
			for _, f := range fs {
				copied := to.Copy(g, f, places)
				made = append(made, copied)
				if known, found := copies[want[f]]; found && known != copied {
					t.Fatalf("one function is %d and %d", known, copied)
				}
				copies[want[f]] = copied
				for a := range 16 {
					there := a>>places[0]&1 | a>>places[1]&1<<1 | a>>places[2]&1<<2
					if to.Eval(copied, a) != want[f][there] {
						t.Fatalf("order %v to %v: the function %d is another", from, to.order, f)
					}
				}
			}
			check(t, to)
			if got := to.Count(slices.Values(made)); got != to.Size() {
				t.Errorf("order %v to %v: %d nodes, %d of them of answers", from, to.order, to.Size(), got)
			}
		}
	}
}
