package copse

import (
	"slices"

	"copse/api"
	"copse/graph"
	"copse/script"
)

// Export writes functions (P9).
func (c *Copse) Export(format int, roots []int) (string, api.Errno) {
	if !isFormat(format) || len(roots) < 1 || len(roots) > api.MaxRoots {
		return "", api.ErrArg
	}
	if !c.areLive(roots) {
		return "", api.ErrHandle
	}
	s := script.Script{Names: c.names, Graph: c.graph, Roots: slices.Collect(refs(roots))}
	return s.Write(format), api.OK
}

// Import reads functions (P10).
func (c *Copse) Import(format int, bytes string) ([]int, api.Errno) {
	if !isFormat(format) {
		return nil, api.ErrArg
	}
	s, ok := script.Read(format, bytes)
	if !ok {
		return nil, api.ErrForm
	}
	variables, ok := c.variables(s.Names)
	if !ok {
		return nil, api.ErrName
	}
	var answers []graph.Ref
	for _, root := range s.Roots {
		answers = append(answers, c.graph.Copy(s.Graph, root, variables))
	}
	if e := c.keep(answers...); e != api.OK {
		return nil, e
	}
	return handles(answers), api.OK
}

func isFormat(format int) bool { return format == api.Text || format == api.Binary }

// variables tells which variables have these names, if there are such.
func (c *Copse) variables(names []string) ([]int, bool) {
	var variables []int
	for _, name := range names {
		variable := slices.Index(c.names, name)
		if variable < 0 {
			return nil, false
		}
		variables = append(variables, variable)
	}
	return variables, true
}

func handles(fs []graph.Ref) []int {
	var told []int
	for _, f := range fs {
		told = append(told, int(f))
	}
	return told
}
