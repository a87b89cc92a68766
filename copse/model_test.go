package copse_test

import (
	"maps"
	"slices"
	"testing"

	"copse/api"
	"copse/copse"
)

// steps gives numbers that look like chance and are the same in each run.
type steps uint64

func (s *steps) below(n int) int {
	*s = *s*6364136223846793005 + 1442695040888963407
	return int(uint64(*s) >> 33 % uint64(n))
}

func (s *steps) shuffled(order []int) []int {
	l := slices.Clone(order)
	for i := range l {
		j := s.below(i + 1)
		l[i], l[j] = l[j], l[i]
	}
	return l
}

// A call is one that changes a copse.
type call struct {
	kind    string
	f, g, h int
	name    string
	v       bool
	to      int
	keep    []int
	format  int
	bytes   string
	answers []int
}

// on tells the handles that come out.
func (k call) on(c *copse.Copse) ([]int, api.Errno) {
	one := func(x int, e api.Errno) ([]int, api.Errno) {
		if e != api.OK && x == 0 {
			return nil, e
		}
		return []int{x}, e
	}
	switch k.kind {
	case "Var":
		return one(c.Var(k.name))
	case "Not":
		return one(c.Not(k.f))
	case "Restrict":
		return one(c.Restrict(k.f, k.name, k.v))
	case "Move":
		return nil, c.Move(k.name, k.to)
	case "Sift":
		c.Sift()
		return nil, api.OK
	case "Collect":
		return nil, c.Collect(k.keep)
	case "Import":
		return c.Import(k.format, k.bytes)
	}
	return one(c.Ite(k.f, k.g, k.h))
}

// model is what a copse has to be: the functions of its live handles, written out.
type model struct {
	c       *copse.Copse
	cap     int
	order   []int
	handles []int // in the order in which they came
	tables  map[int]table
	known   map[table]int
	nodes   map[table]bool // those of all live handles
	taken   []call         // the calls that were not refused, with what they answered
	refused map[string]int // how often, by the kinds of calls
}

func newModel(t *testing.T, cap int) *model {
	c, _ := start(t, cap, 0)
	m := &model{c: c, cap: cap, refused: map[string]int{}}
	m.forget(t)
	return m
}

// forget leaves the constants alone live.
func (m *model) forget(t *testing.T) {
	m.handles, m.tables, m.known, m.nodes = nil, map[int]table{}, map[table]int{}, map[table]bool{}
	m.learn(t, m.c.Const(false), never)
	m.learn(t, m.c.Const(true), always)
}

func (m *model) learn(t *testing.T, handle int, f table) {
	t.Helper()
	if h, found := m.known[f]; found && h != handle {
		t.Fatalf("one function has the handles %d and %d", h, handle)
	}
	if g, found := m.tables[handle]; found && g != f {
		t.Fatalf("the handle %d is two functions: %x, %x", handle, g, f)
	}
	if handle < 0 {
		t.Fatalf("a handle below 0: %d", handle)
	}
	if _, found := m.tables[handle]; !found {
		m.handles = append(m.handles, handle)
	}
	m.tables[handle], m.known[f] = f, handle
	addNodes(m.nodes, m.order, f)
}

// attempt makes a call that must be refused just if the copse would have more than cap nodes then.
func (m *model) attempt(t *testing.T, k call, nodes int) ([]int, api.Errno) {
	t.Helper()
	want := api.OK
	if nodes > m.cap {
		want = api.ErrFull
	}
	answers, e := k.on(m.c)
	if e != want || e != api.OK && len(answers) != 0 {
		t.Fatalf("%v: %d nodes, cap %d: %v, %d", k, nodes, m.cap, answers, e)
	}
	if e == api.OK {
		k.answers = slices.Clone(answers)
		m.taken = append(m.taken, k)
	} else {
		m.refused[k.kind]++
	}
	return answers, e
}

// do makes a call that tells handles, which should stand for functions in an order.
func (m *model) do(t *testing.T, k call, order []int, want ...table) {
	t.Helper()
	together := maps.Clone(m.nodes)
	addNodes(together, order, want...)
	answers, e := m.attempt(t, k, len(together))
	if e != api.OK {
		return
	}
	if len(answers) != len(want) {
		t.Fatalf("%v: %v, want %d handles", k, answers, len(want))
	}
	m.order = order
	for i, handle := range answers {
		m.learn(t, handle, want[i])
	}
}

func (m *model) addVar(t *testing.T) {
	t.Helper()
	variable := len(m.order)
	m.do(t, call{kind: "Var", name: names[variable]}, append(slices.Clone(m.order), variable), variableTable(variable))
}

// live tells the functions of all live handles.
func (m *model) live() []table { return slices.Collect(maps.Values(m.tables)) }

// reorder makes a call that should bring about an order.
func (m *model) reorder(t *testing.T, k call, order []int) {
	t.Helper()
	nodes := map[table]bool{}
	addNodes(nodes, order, m.live()...)
	if _, e := m.attempt(t, k, len(nodes)); e == api.OK {
		m.order, m.nodes = order, nodes
	}
}

func (m *model) collect(t *testing.T, keep []int) {
	t.Helper()
	m.attempt(t, call{kind: "Collect", keep: keep}, 0)
	tables := m.tables
	m.forget(t)
	for _, h := range keep {
		m.learn(t, h, tables[h])
	}
}

func (m *model) any(s *steps) int { return m.handles[s.below(len(m.handles))] }

// step makes a call that tells a handle, and that no other error than ErrFull can refuse.
func (m *model) step(t *testing.T, s *steps) {
	t.Helper()
	k := call{kind: "Ite", f: m.any(s), g: m.any(s), h: m.any(s), v: s.below(2) == 1}
	f := m.tables[k.f]
	switch kind := s.below(8); {
	case kind == 0 && len(m.order) < api.MaxVars:
		m.addVar(t)
	case kind == 1:
		k.kind = "Not"
		m.do(t, k, m.order, ^f)
	case kind == 2 && len(m.order) > 0:
		variable := s.below(len(m.order))
		k.kind, k.name = "Restrict", names[variable]
		m.do(t, k, m.order, restrictTable(f, variable, k.v))
	default:
		m.do(t, k, m.order, iteTable(f, m.tables[k.g], m.tables[k.h]))
	}
}

// orderStep makes a call of Move or, now and then, of Sift.
func (m *model) orderStep(t *testing.T, s *steps) {
	t.Helper()
	if len(m.order) == 0 || s.below(8) == 0 {
		m.reorder(t, call{kind: "Sift"}, siftOrder(m.order, m.live()...))
		return
	}
	variable, to := s.below(len(m.order)), s.below(len(m.order))
	m.reorder(t, call{kind: "Move", name: names[variable], to: to}, moveTo(m.order, variable, to))
}

// importStep reads functions that may be new, as they are in any order.
func (m *model) importStep(t *testing.T, s *steps) {
	t.Helper()
	var fs []table
	for range 1 + s.below(3) {
		f := iteTable(m.tables[m.any(s)], m.tables[m.any(s)], m.tables[m.any(s)])
		fs = append(fs, iteTable(m.tables[m.any(s)], f, ^f))
	}
	format := s.below(2)
	m.do(t, call{kind: "Import", format: format, bytes: bytesOf(format, s.shuffled(m.order), fs...)}, m.order, fs...)
}

// collectStep keeps some of the live handles, few or many, some of them perhaps twice.
func (m *model) collectStep(t *testing.T, s *steps) {
	t.Helper()
	var keep []int
	for range s.below(len(m.handles) + 1) {
		keep = append(keep, m.any(s))
	}
	for _, variable := range m.order {
		// Seldom let go, as little can be made without them.
		if h, found := m.known[variableTable(variable)]; found && s.below(32) > 0 {
			keep = append(keep, h)
		}
	}
	m.collect(t, keep)
}

// mixedStep makes a call of any kind.
func (m *model) mixedStep(t *testing.T, s *steps) {
	t.Helper()
	switch s.below(32) {
	case 0, 1, 2, 3:
		m.orderStep(t, s)
	case 4:
		m.collectStep(t, s)
	case 5, 6:
		m.importStep(t, s)
	default:
		m.step(t, s)
	}
}

// look holds what P6, P7 and P9 tell of one handle, of a few together, and of all, against the model.
func (m *model) look(t *testing.T, s *steps) {
	t.Helper()
	f := m.any(s)
	if got := read(t, m.c, f, len(m.order)); got != m.tables[f] {
		t.Fatalf("Eval of %d: %x, want %x", f, got, m.tables[f])
	}
	var want []string
	for _, variable := range m.order {
		if hangsOn(m.tables[f], variable) {
			want = append(want, names[variable])
		}
	}
	if got, e := m.c.Support(f); !slices.Equal(got, want) || e != api.OK {
		t.Fatalf("Support of %x: %v, %d, want %v", m.tables[f], got, e, want)
	}
	var fs []int
	var tables []table
	for range s.below(5) {
		h := m.any(s)
		fs, tables = append(fs, h), append(tables, m.tables[h])
	}
	if got, e := m.c.Nodes(fs); got != countNodes(m.order, tables...) || e != api.OK {
		t.Fatalf("Nodes of %x: %d, %d, want %d", tables, got, e, countNodes(m.order, tables...))
	}
	m.lookAtBytes(t, append(fs, f), append(tables, m.tables[f]))
	m.lookAtAll(t)
}

func (m *model) lookAtBytes(t *testing.T, fs []int, tables []table) {
	t.Helper()
	for format := range 2 {
		if got, e := m.c.Export(format, fs); got != bytesOf(format, m.order, tables...) || e != api.OK {
			t.Fatalf("Export(%d, ..) of %x, order %v: %q, %d, want %q", format, tables, m.order, got, e, bytesOf(format, m.order, tables...))
		}
	}
}

func (m *model) lookAtAll(t *testing.T) {
	t.Helper()
	if got := m.c.Order(); !slices.Equal(got, namesOf(m.order)) {
		t.Fatalf("Order: %v, want %v", got, namesOf(m.order))
	}
	if got := m.c.Live(); got != len(m.nodes) {
		t.Fatalf("Live: %d, want %d", got, len(m.nodes))
	}
	if got, e := m.c.Nodes(m.handles); got != len(m.nodes) || e != api.OK {
		t.Fatalf("Nodes of all: %d, %d, want %d", got, e, len(m.nodes))
	}
}

// readAll holds each live handle against its function.
func (m *model) readAll(t *testing.T) {
	t.Helper()
	for _, h := range m.handles {
		if got := read(t, m.c, h, len(m.order)); got != m.tables[h] {
			t.Fatalf("the handle %d is %x, want %x", h, got, m.tables[h])
		}
	}
}

// TestModel: P3 to P10: many calls, in copses of all kinds of caps, held against functions written out.
func TestModel(t *testing.T) {
	for _, cap := range []int{1, 2, 3, 4, 5, 6, 7, 8, 10, 13, 20, 35, 60, 100, 150, 299, 300} {
		for seed := range 6 {
			s := steps(1000*cap + seed)
			m := newModel(t, cap)
			for range 500 {
				m.mixedStep(t, &s)
				m.look(t, &s)
			}
			m.readAll(t)
		}
	}
}

// TestFullToTheBrim: P5, P8: a copse takes just as many nodes as its cap, up to MaxCap, in every order.
func TestFullToTheBrim(t *testing.T) {
	for _, cap := range []int{6, 12, 50, 299, api.MaxCap} {
		s := steps(cap)
		m := newModel(t, cap)
		for range api.MaxVars {
			m.addVar(t)
		}
		for i := 0; len(m.nodes) < cap; i++ {
			if i == 100000 {
				t.Fatalf("cap %d: not full: %d nodes", cap, len(m.nodes))
			}
			m.step(t, &s)
		}
		for range 300 {
			m.step(t, &s)
		}
		m.readAll(t)
		for range 50 {
			m.orderStep(t, &s)
			m.lookAtAll(t)
			m.step(t, &s)
		}
		m.readAll(t)
		if m.refused["Ite"] == 0 || cap > 6 && m.refused["Move"] == 0 {
			t.Errorf("cap %d: too little was refused: %v", cap, m.refused)
		}
	}
}

// TestAllOfThree: P5 and P6: all functions of three variables.
func TestAllOfThree(t *testing.T) {
	c, v := start(t, api.MaxCap, 3)
	handles := make([]int, 256)
	for i := range handles {
		f := c.Const(false)
		for a := range 8 {
			if i>>a&1 == 1 {
				f = ite(t, c, minterm(t, c, v, a), c.Const(true), f)
			}
		}
		handles[i] = f
	}
	for i, f := range handles {
		if j := slices.Index(handles, f); j != i {
			t.Fatalf("the functions %d and %d have one handle", j, i)
		}
		if not(t, c, f) != handles[255-i] {
			t.Errorf("Not of function %d", i)
		}
		for a := range 8 {
			if x, e := c.Eval(f, a); x != (i>>a&1 == 1) || e != api.OK {
				t.Errorf("Eval of function %d, assignment %d: %v, %d", i, a, x, e)
			}
		}
		for j := range 256 {
			if k := (i*7 + j*13) % 256; ite(t, c, f, handles[j], handles[k]) != handles[i&j|^i&k&255] {
				t.Fatalf("Ite of the functions %d, %d, %d", i, j, k)
			}
		}
	}
	if n, e := c.Nodes(handles); n != 127 || e != api.OK {
		t.Errorf("Nodes of all functions of three variables: %d, %d, want 127", n, e)
	}
}

// minterm is the function that is true for one assignment alone.
func minterm(t *testing.T, c *copse.Copse, v []int, assignment int) int {
	t.Helper()
	f := c.Const(true)
	for i, x := range v {
		if assignment>>i&1 == 1 {
			f = and(t, c, x, f)
		} else {
			f = ite(t, c, x, c.Const(false), f)
		}
	}
	return f
}
