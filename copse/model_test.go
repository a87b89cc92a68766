package copse_test

import (
	"maps"
	"slices"
	"testing"

	"copse/api"
	"copse/copse"
)

// steps gives numbers that look like chance and are the same in each run.
type steps uint64

func (s *steps) below(n int) int {
	*s = *s*6364136223846793005 + 1442695040888963407
	return int(uint64(*s) >> 33 % uint64(n))
}

// A call is one that makes handles.
type call struct {
	kind    string
	f, g, h int
	name    string
	v       bool
	answer  int
}

func (k call) on(c *copse.Copse) (int, api.Errno) {
	switch k.kind {
	case "Var":
		return c.Var(k.name)
	case "Not":
		return c.Not(k.f)
	case "Restrict":
		return c.Restrict(k.f, k.name, k.v)
	}
	return c.Ite(k.f, k.g, k.h)
}

// model is what a copse has to be: the functions of its live handles, written out.
type model struct {
	c       *copse.Copse
	cap     int
	vars    int
	handles []int // in the order in which they came
	tables  map[int]table
	known   map[table]int
	nodes   map[table]bool // those of all live handles
	taken   []call         // the calls that were not refused, with what they answered
	refused int
}

func newModel(t *testing.T, cap int) *model {
	c, _ := start(t, cap, 0)
	m := &model{c: c, cap: cap, tables: map[int]table{}, known: map[table]int{}, nodes: map[table]bool{}}
	m.learn(t, c.Const(false), never)
	m.learn(t, c.Const(true), always)
	return m
}

func (m *model) learn(t *testing.T, handle int, f table) {
	t.Helper()
	if h, found := m.known[f]; found && h != handle {
		t.Fatalf("one function has the handles %d and %d", h, handle)
	}
	if g, found := m.tables[handle]; found && g != f {
		t.Fatalf("the handle %d is two functions: %x, %x", handle, g, f)
	}
	if handle < 0 {
		t.Fatalf("a handle below 0: %d", handle)
	}
	if _, found := m.tables[handle]; !found {
		m.handles = append(m.handles, handle)
	}
	m.tables[handle], m.known[f] = f, handle
	addNodes(m.nodes, f)
}

// do makes a call and holds its answer against the function that it should be.
func (m *model) do(t *testing.T, k call, want table) api.Errno {
	t.Helper()
	together := maps.Clone(m.nodes)
	addNodes(together, want)
	handle, e := k.on(m.c)
	if len(together) > m.cap {
		if handle != 0 || e != api.ErrFull {
			t.Fatalf("%v: %d nodes, cap %d: %d, %d, want ErrFull", k, len(together), m.cap, handle, e)
		}
		m.refused++
		return e
	}
	if e != api.OK {
		t.Fatalf("%v: %d nodes, cap %d: refused: %d", k, len(together), m.cap, e)
	}
	m.learn(t, handle, want)
	k.answer = handle
	m.taken = append(m.taken, k)
	return e
}

func (m *model) any(s *steps) int { return m.handles[s.below(len(m.handles))] }

// step makes a call that no other error than ErrFull can refuse.
func (m *model) step(t *testing.T, s *steps) {
	t.Helper()
	k := call{kind: "Ite", f: m.any(s), g: m.any(s), h: m.any(s), v: s.below(2) == 1}
	f := m.tables[k.f]
	switch kind := s.below(8); {
	case kind == 0 && m.vars < api.MaxVars:
		m.addVar(t)
	case kind == 1:
		k.kind = "Not"
		m.do(t, k, ^f)
	case kind == 2 && m.vars > 0:
		variable := s.below(m.vars)
		k.kind, k.name = "Restrict", names[variable]
		m.do(t, k, restrictTable(f, variable, k.v))
	default:
		m.do(t, k, iteTable(f, m.tables[k.g], m.tables[k.h]))
	}
}

func (m *model) addVar(t *testing.T) {
	t.Helper()
	if e := m.do(t, call{kind: "Var", name: names[m.vars]}, variableTable(m.vars)); e == api.OK {
		m.vars++
	}
}

// look holds what P6 tells of one handle, and of a few together, against the model.
func (m *model) look(t *testing.T, s *steps) {
	t.Helper()
	f := m.any(s)
	if got := read(t, m.c, f, m.vars); got != m.tables[f] {
		t.Fatalf("Eval of %d: %x, want %x", f, got, m.tables[f])
	}
	var want []string
	for variable := range m.vars {
		if hangsOn(m.tables[f], variable) {
			want = append(want, names[variable])
		}
	}
	if got, e := m.c.Support(f); !slices.Equal(got, want) || e != api.OK {
		t.Fatalf("Support of %x: %v, %d, want %v", m.tables[f], got, e, want)
	}
	var fs []int
	var tables []table
	for range s.below(5) {
		h := m.any(s)
		fs, tables = append(fs, h), append(tables, m.tables[h])
	}
	if got, e := m.c.Nodes(fs); got != countNodes(tables...) || e != api.OK {
		t.Fatalf("Nodes of %x: %d, %d, want %d", tables, got, e, countNodes(tables...))
	}
}

// TestModel: P3 to P6: many calls, in copses of all kinds of caps, held against functions written out.
func TestModel(t *testing.T) {
	for _, cap := range []int{1, 2, 3, 4, 5, 6, 7, 8, 10, 13, 20, 35, 60, 100, 150, 299, 300} {
		for seed := range 6 {
			s := steps(1000*cap + seed)
			m := newModel(t, cap)
			for i := range 500 {
				m.step(t, &s)
				if i%10 == 0 {
					m.look(t, &s)
				}
			}
			if n, e := m.c.Nodes(m.handles); n != len(m.nodes) || e != api.OK {
				t.Fatalf("Nodes of all: %d, %d, want %d", n, e, len(m.nodes))
			}
		}
	}
}

// TestFullToTheBrim: P5: a copse takes just as many nodes as its cap, up to MaxCap.
func TestFullToTheBrim(t *testing.T) {
	for _, cap := range []int{6, 50, 299, api.MaxCap} {
		s := steps(cap)
		m := newModel(t, cap)
		for range api.MaxVars {
			m.addVar(t)
		}
		for i := 0; len(m.nodes) < cap; i++ {
			if i == 100000 {
				t.Fatalf("cap %d: not full: %d nodes", cap, len(m.nodes))
			}
			m.step(t, &s)
		}
		for range 300 {
			m.step(t, &s)
		}
		for _, h := range m.handles {
			if got := read(t, m.c, h, m.vars); got != m.tables[h] {
				t.Fatalf("a full copse: the handle %d is %x, want %x", h, got, m.tables[h])
			}
		}
	}
}

// TestAllOfThree: P5 and P6: all functions of three variables.
func TestAllOfThree(t *testing.T) {
	c, v := start(t, api.MaxCap, 3)
	handles := make([]int, 256)
	for i := range handles {
		f := c.Const(false)
		for a := range 8 {
			if i>>a&1 == 1 {
				f = ite(t, c, minterm(t, c, v, a), c.Const(true), f)
			}
		}
		handles[i] = f
	}
	for i, f := range handles {
		if j := slices.Index(handles, f); j != i {
			t.Fatalf("the functions %d and %d have one handle", j, i)
		}
		if not(t, c, f) != handles[255-i] {
			t.Errorf("Not of function %d", i)
		}
		for a := range 8 {
			if x, e := c.Eval(f, a); x != (i>>a&1 == 1) || e != api.OK {
				t.Errorf("Eval of function %d, assignment %d: %v, %d", i, a, x, e)
			}
		}
		for j := range 256 {
			if k := (i*7 + j*13) % 256; ite(t, c, f, handles[j], handles[k]) != handles[i&j|^i&k&255] {
				t.Fatalf("Ite of the functions %d, %d, %d", i, j, k)
			}
		}
	}
	if n, e := c.Nodes(handles); n != 127 || e != api.OK {
		t.Errorf("Nodes of all functions of three variables: %d, %d, want 127", n, e)
	}
}

// minterm is the function that is true for one assignment alone.
func minterm(t *testing.T, c *copse.Copse, v []int, assignment int) int {
	t.Helper()
	f := c.Const(true)
	for i, x := range v {
		if assignment>>i&1 == 1 {
			f = and(t, c, x, f)
		} else {
			f = ite(t, c, x, c.Const(false), f)
		}
	}
	return f
}
