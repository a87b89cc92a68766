// Package script writes functions as bytes, and reads them.
package script

import (
	"slices"

	"copse/api"
	"copse/graph"
)

// Script is what is written: functions of a graph, in its order.
type Script struct {
	Names []string // of the graph's variables, by their numbers
	Graph *graph.Graph
	Roots []graph.Ref
}

// A writer puts a script down in one of the formats: its head, then each node, then its tail. References are to the numbers in the script.
type writer interface {
	head(names []string, nodes int)
	node(level int, then, otherwise graph.Ref)
	tail(roots []graph.Ref) string
}

func newWriter(format int) writer {
	if format == api.Binary {
		return &binaryWriter{}
	}
	return &textWriter{}
}

// Write tells the bytes.
func (s Script) Write(format int) string {
	w := newWriter(format)
	roots := slices.Values(s.Roots)
	variables := s.Graph.Support(roots)
	w.head(s.namesOf(variables), s.Graph.Count(roots))
	numbered := numbering{graph.True: graph.True}
	for n := range s.Graph.Walk(roots) {
		w.node(slices.Index(variables, n.Variable), numbered.reference(n.Then), numbered.reference(n.Else))
		numbered.add(n.Self)
	}
	return w.tail(numbered.references(s.Roots))
}

func (s Script) namesOf(variables []int) []string {
	var names []string
	for _, variable := range variables {
		names = append(names, s.Names[variable])
	}
	return names
}

// numbering tells what the graph's nodes, and the constant, are in the script.
type numbering map[graph.Ref]graph.Ref

// add gives a node the next number; as the constant has a place here, that is how many there are.
func (l numbering) add(node graph.Ref) { l[node] = graph.Ref(2 * len(l)) }

func (l numbering) reference(f graph.Ref) graph.Ref { return l[f.Plain()].TurnedLike(f) }

func (l numbering) references(fs []graph.Ref) []graph.Ref {
	var references []graph.Ref
	for _, f := range fs {
		references = append(references, l.reference(f))
	}
	return references
}

// Read tells the functions whose bytes these are, if they are those of any.
func Read(format int, bytes string) (Script, bool) {
	s, ok := parse(newReader(format, bytes))
	// There is just one way to write functions: whatever is not as it should be comes out otherwise.
	if !ok || s.Write(format) != bytes {
		return Script{}, false
	}
	return s, true
}
