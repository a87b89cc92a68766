package graph

import "iter"

// Node is one that Walk tells.
type Node struct {
	Self       Ref // what it tells
	Variable   int // what it asks
	Then, Else Ref
}

// Walk tells the nodes of some functions, for each of these in turn: ahead of a node those of its Then, and then those of its Else. Nothing may change the graph until all are told.
func (g *Graph) Walk(fs iter.Seq[Ref]) <-chan Node {
	// With room for all of them the goroutine ends, even if they are not waited for.
	nodes := make(chan Node, g.Count(fs))
	go func() {
		sent := make([]bool, len(g.nodes))
		for f := range fs {
			g.send(f, sent, nodes)
		}
		close(nodes)
	}()
	return nodes
}

func (g *Graph) send(f Ref, sent []bool, nodes chan<- Node) {
	if f.constant() || sent[f.Number()] {
		return
	}
	n := g.nodes[f.Number()]
	g.send(n.then, sent, nodes)
	g.send(n.otherwise, sent, nodes)
	sent[f.Number()] = true
	nodes <- Node{f.Plain(), n.variable, n.then, n.otherwise}
}
