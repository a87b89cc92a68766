package copse_test

import (
	"math"
	"slices"
	"strings"
	"testing"

	"copse/api"
	"copse/copse"
)

var oddNumbers = []int{math.MinInt, math.MinInt + 1, -1000, -2, -1, 0, 1, 2, 3, 5, 63, 64, 65, 299, 300, 301, 600, 1000, math.MaxInt32, math.MaxInt - 1, math.MaxInt}

var oddTexts = []string{"", " ", "a", "aa", "A", "0", "0a", "a0", "\x00", "a\x00", "a\n", "\xff", "ä", "aä", "a-b", "abcdefgh", "abcdefghi", strings.Repeat("a", 100000), "copse\n", "COPS", "copse\nvars 0\nnodes 0\nroots 1\n-0\nend\n", "copse\nvars 1\na\nnodes 1\n0 0 -0\nroots 1\n1\nend\n", "copse\nvars -1\nnodes -1\nroots -1\n", "copse\nvars 1\na\nnodes 1\n-1 -1 -1\n", "copse\nvars 6\n", "COPS\xff", "COPS\x00\xff\xff\x00\xff\xff\xff\xff", sealed("COPS\x00\x00\x00\x01\x00\x01"), sealed("COPS\x00\x00\x00\x01\xff\xff")}

// TestP1NoPanic: every call ends, at all numbers, texts and lists.
func TestP1NoPanic(t *testing.T) {
	for n := range 4 {
		c, _ := start(t, 20, n)
		for _, x := range oddNumbers {
			copse.New(x)
			c.Not(x)
			c.Support(x)
			c.Nodes([]int{x})
			c.Nodes([]int{0, x, x, 1})
			c.Export(x, []int{x})
			c.Export(0, []int{x})
			c.Export(1, []int{0, x, 1, x})
			c.Collect([]int{0, 1, x})
			for _, y := range oddNumbers {
				c.Eval(x, y)
				c.Ite(x, y, 0)
				c.Ite(1, x, y)
				c.Ite(y, 2, x)
			}
			for _, s := range oddTexts {
				c.Restrict(x, s, true)
				c.Restrict(x, s, false)
				c.Move(s, x)
				c.Import(x, s)
			}
		}
		for _, s := range oddTexts {
			c.Var(s)
			c.Import(0, s)
			c.Import(1, s)
		}
		c.Nodes(nil)
		c.Collect(nil)
		c.Export(0, nil)
		c.Export(1, make([]int, 100000))
		c.Sift()
		c.Order()
		c.Live()
	}
}

// TestP1FirstError: where several errors apply, the answer is the one named first.
func TestP1FirstError(t *testing.T) {
	full, v := start(t, 6, 6)
	for _, k := range []struct {
		what string
		call func() (int, api.Errno)
		want api.Errno
	}{
		{"Var: no name, too many, full", func() (int, api.Errno) { return full.Var("") }, api.ErrName},
		{"Var: a name that there is, too many, full", func() (int, api.Errno) { return full.Var("a") }, api.ErrName},
		{"Var: too many, full", func() (int, api.Errno) { return full.Var("g") }, api.ErrMany},
		{"Restrict: no handle, no name", func() (int, api.Errno) { return full.Restrict(-1, "g", true) }, api.ErrHandle},
		{"Ite: no handle, in a full copse", func() (int, api.Errno) { return full.Ite(v[0], v[1], -1) }, api.ErrHandle},
	} {
		if x, e := k.call(); x != 0 || e != k.want {
			t.Errorf("%s: %d, %d, want 0, %d", k.what, x, e, k.want)
		}
	}
	if x, e := full.Eval(-1, -1); x || e != api.ErrHandle {
		t.Errorf("Eval: no handle, no assignment: %v, %d", x, e)
	}
	if e := full.Move("g", -1); e != api.ErrName {
		t.Errorf("Move: no name, no place: %d", e)
	}
	if s, e := full.Export(2, []int{-1}); s != "" || e != api.ErrArg {
		t.Errorf("Export: no format, no handle: %q, %d", s, e)
	}
	if s, e := full.Export(0, slices.Repeat([]int{-1}, 17)); s != "" || e != api.ErrArg {
		t.Errorf("Export: too many, no handles: %q, %d", s, e)
	}
	unknown := paper{[]string{"g", "a"}, []nodeLine{{1, reference{}, reference{0, true}}, {0, reference{1, false}, reference{0, true}}}, []reference{{2, false}}}
	bad := unknown
	bad.roots = []reference{{1, false}}
	for format := range 2 {
		for _, k := range []struct {
			what   string
			format int
			bytes  string
			want   api.Errno
		}{
			{"no format, no form", format + 2, bad.write(format), api.ErrArg},
			{"no form, no name, full", format, bad.write(format), api.ErrForm},
			{"no name, full", format, unknown.write(format), api.ErrName},
		} {
			if l, e := full.Import(k.format, k.bytes); len(l) != 0 || e != k.want {
				t.Errorf("Import: %s: %v, %d, want %d", k.what, l, e, k.want)
			}
		}
	}
}

// refusals calls what must be refused by a copse with two variables and three nodes, whose cap is 3.
func refusals(t *testing.T, c *copse.Copse, v []int, f int) {
	t.Helper()
	refused := func(x int, e api.Errno) {
		t.Helper()
		if x != 0 || e == api.OK {
			t.Fatalf("not refused: %d, %d", x, e)
		}
	}
	refused(c.Var("a"))
	refused(c.Var("no name"))
	refused(c.Var("c"))
	refused(c.Not(-1))
	refused(c.Ite(v[0], -1, v[1]))
	refused(c.Ite(v[0], c.Const(true), v[1]))
	refused(c.Ite(f, c.Const(false), v[0]))
	refused(c.Restrict(f, "c", true))
	refused(c.Restrict(-1, "a", true))
	refused(c.Nodes([]int{f, -1}))
	refused(0, c.Move("c", 0))
	refused(0, c.Move("a", 2))
	refused(0, c.Collect([]int{f, -1}))
	if x, e := c.Eval(f, 4); x || e != api.ErrArg {
		t.Fatalf("an assignment that is none: %v, %d", x, e)
	}
	if l, e := c.Support(-1); len(l) != 0 || e != api.ErrHandle {
		t.Fatalf("Support of no handle: %v, %d", l, e)
	}
	if s, e := c.Export(0, []int{f, -1}); s != "" || e != api.ErrHandle {
		t.Fatalf("Export of no handle: %q, %d", s, e)
	}
	for format := range 2 {
		either := bytesOf(format, []int{1, 0}, variableTable(0)|variableTable(1))
		if l, e := c.Import(format, either); len(l) != 0 || e != api.ErrFull {
			t.Fatalf("Import into a full copse: %v, %d", l, e)
		}
		if l, e := c.Import(1-format, either); len(l) != 0 || e != api.ErrForm {
			t.Fatalf("Import in the wrong format: %v, %d", l, e)
		}
		if l, e := c.Import(format, bytesOf(format, []int{2}, variableTable(2))); len(l) != 0 || e != api.ErrName {
			t.Fatalf("Import of a variable that there is not: %v, %d", l, e)
		}
	}
}

// TestP1NothingChanged: with an error nothing is changed.
func TestP1NothingChanged(t *testing.T) {
	c, v := start(t, 3, 2)
	f := and(t, c, v[0], v[1])
	refusals(t, c, v, f)
	refusals(t, c, v, f)
	if n, e := c.Nodes([]int{v[0], v[1], f}); n != 3 || e != api.OK {
		t.Errorf("nodes after refusals: %d, %d", n, e)
	}
	if got := read(t, c, f, 2); got != variableTable(0)&variableTable(1) {
		t.Errorf("a function after refusals: %x", got)
	}
	if and(t, c, v[1], v[0]) != f {
		t.Errorf("a handle after refusals")
	}
	if l := c.Order(); !slices.Equal(l, []string{"a", "b"}) || c.Live() != 3 {
		t.Errorf("after refusals: %v, %d live nodes", l, c.Live())
	}
}

// TestP1NoTrace: a refused call leaves no trace in what comes later: a copse without the refused calls gives the same answers.
func TestP1NoTrace(t *testing.T) {
	for cap := 4; cap <= 40; cap++ {
		s := steps(cap)
		m := newModel(t, cap)
		for range 600 {
			m.mixedStep(t, &s)
		}
		if m.refused["Ite"] == 0 || m.refused["Import"] == 0 || cap >= 10 && m.refused["Move"] == 0 {
			t.Fatalf("cap %d: too little was refused: %v", cap, m.refused)
		}
		again, _ := start(t, cap, 0)
		for i, k := range m.taken {
			if l, e := k.on(again); !slices.Equal(l, k.answers) || e != api.OK {
				t.Fatalf("cap %d: call %d of those that were taken: %v, %d, want %v", cap, i, l, e, k.answers)
			}
		}
	}
}

// TestP2Alike: what a call answers hangs on the calls ahead of it on the same copse alone.
func TestP2Alike(t *testing.T) {
	for cap := 10; cap <= api.MaxCap; cap += 58 {
		first, s := newModel(t, cap), steps(cap)
		second, r := newModel(t, cap), steps(cap)
		noise, q := newModel(t, cap), steps(cap+1)
		for range 400 {
			first.mixedStep(t, &s)
			noise.mixedStep(t, &q)
		}
		for range 400 {
			second.mixedStep(t, &r)
		}
		if !slices.Equal(first.handles, second.handles) || !slices.Equal(first.c.Order(), second.c.Order()) {
			t.Fatalf("cap %d: the same calls, other answers", cap)
		}
	}
}

// TestP2Apart: copses have nothing to do with each other.
func TestP2Apart(t *testing.T) {
	c, v := start(t, 3, 2)
	d, _ := start(t, 3, 0)
	f := and(t, c, v[0], v[1])
	if _, e := d.Eval(d.Const(true), 1); e != api.ErrArg {
		t.Errorf("a variable came over: %d", e)
	}
	if _, e := d.Restrict(d.Const(true), "a", true); e != api.ErrName {
		t.Errorf("a name came over: %d", e)
	}
	for _, name := range []string{"b", "a", "x"} {
		if _, e := d.Var(name); e != api.OK {
			t.Errorf("nodes or names came over: Var(%q): %d", name, e)
		}
	}
	move(t, d, "a", 2)
	d.Sift()
	collect(t, d)
	if l := imported(t, d, 0, export(t, c, 0, f)); len(l) != 1 || d.Live() != 2 {
		t.Errorf("a function went over: %v, %d live nodes", l, d.Live())
	}
	d.Sift()
	if l, e := c.Support(f); !slices.Equal(l, []string{"a", "b"}) || e != api.OK {
		t.Errorf("a function of one copse, after calls on another: %v, %d", l, e)
	}
	if l := c.Order(); !slices.Equal(l, []string{"a", "b"}) || c.Live() != 3 {
		t.Errorf("a copse, after calls on another: %v, %d live nodes", l, c.Live())
	}
}

// TestP2ListIn: a list that is handed in is not written into, nor its spare room, and it is not kept.
func TestP2ListIn(t *testing.T) {
	c, v := start(t, 300, 3)
	f := and(t, c, v[0], v[1])
	room := []int{f, v[0], v[0], c.Const(true), -7, -8, -9, -10}
	whole := slices.Clone(room)
	if n, e := c.Nodes(room[:4]); n != 3 || e != api.OK {
		t.Errorf("Nodes: %d, %d", n, e)
	}
	if n, e := c.Nodes(room[:5]); n != 0 || e != api.ErrHandle {
		t.Errorf("Nodes with a number below 0: %d, %d", n, e)
	}
	if s, e := c.Export(0, room[:4]); s != bytesOf(0, []int{0, 1, 2}, variableTable(0)&variableTable(1), variableTable(0), variableTable(0), always) || e != api.OK {
		t.Errorf("Export: %q, %d", s, e)
	}
	if s, e := c.Export(1, room[:5]); s != "" || e != api.ErrHandle {
		t.Errorf("Export with a number below 0: %q, %d", s, e)
	}
	if e := c.Collect(room[:5]); e != api.ErrHandle {
		t.Errorf("Collect with a number below 0: %d", e)
	}
	if e := c.Collect(room[:4]); e != api.OK {
		t.Errorf("Collect: %d", e)
	}
	if !slices.Equal(room, whole) {
		t.Errorf("a list was written into: %v, was %v", room, whole)
	}
	for i := range room {
		room[i] = -1
	}
	if n, e := c.Nodes([]int{f}); n != 2 || e != api.OK {
		t.Errorf("a list was kept: %d, %d", n, e)
	}
	if n, e := c.Nodes([]int{f, v[0]}); n != 3 || e != api.OK || c.Live() != 3 {
		t.Errorf("a list of what is live was kept: %d, %d, %d live nodes", n, e, c.Live())
	}
}

// TestP2ListOut: a list that comes out shares nothing, in its spare room neither.
func TestP2ListOut(t *testing.T) {
	c, v := start(t, 300, 6)
	f := and(t, c, v[0], and(t, c, v[3], v[5]))
	want := []string{"a", "d", "f"}
	first, _ := c.Support(f)
	second, _ := c.Support(f)
	for _, l := range [][]string{first, first[:cap(first)]} {
		for i := range l {
			l[i] = "z"
		}
	}
	if !slices.Equal(second, want) {
		t.Errorf("two answers share memory: %v", second)
	}
	if l, e := c.Support(f); !slices.Equal(l, want) || e != api.OK {
		t.Errorf("an answer shares memory with the copse: %v, %d", l, e)
	}
	if _, e := c.Restrict(f, "z", true); e != api.ErrName {
		t.Errorf("a name was written into the copse: %d", e)
	}
	bytes := export(t, c, 0, f, v[0], v[1], v[2], f)
	for range 2 {
		l := imported(t, c, 0, bytes)
		if !slices.Equal(l, []int{f, v[0], v[1], v[2], f}) {
			t.Errorf("an answer of Import shares memory with the copse: %v", l)
		}
		l = l[:cap(l)]
		for i := range l {
			l[i] = -1
		}
	}
	for range 2 {
		l := c.Order()
		if !slices.Equal(l, names) {
			t.Errorf("an answer of Order shares memory with the copse: %v", l)
		}
		l = l[:cap(l)]
		for i := range l {
			l[i] = "z"
		}
	}
}

// TestP3: New and Const.
func TestP3(t *testing.T) {
	for _, cap := range oddNumbers {
		c, e := copse.New(cap)
		if ok := cap >= 1 && cap <= 300; ok != (e == api.OK) || ok != (c != nil) || !ok && e != api.ErrArg {
			t.Errorf("New(%d): %v, %d", cap, c != nil, e)
		}
	}
	c, _ := start(t, 1, 0)
	no, yes := c.Const(false), c.Const(true)
	if no < 0 || yes < 0 || no == yes {
		t.Fatalf("the constants: %d, %d", no, yes)
	}
	if x, e := c.Eval(no, 0); x || e != api.OK {
		t.Errorf("Eval of false: %v, %d", x, e)
	}
	if x, e := c.Eval(yes, 0); !x || e != api.OK {
		t.Errorf("Eval of true: %v, %d", x, e)
	}
	if n, e := c.Nodes([]int{no, yes}); n != 0 || e != api.OK {
		t.Errorf("nodes of the constants: %d, %d", n, e)
	}
	if _, e := c.Var("a"); e != api.OK || c.Const(false) != no || c.Const(true) != yes {
		t.Errorf("the constants, when there is a variable")
	}
}

// TestP4Names: which texts are names.
func TestP4Names(t *testing.T) {
	for _, name := range []string{"a", "z", "a0", "z9", "abcdefgh", "a1234567", "zzzzzzzz"} {
		c, _ := start(t, 300, 0)
		if h, e := c.Var(name); h < 0 || e != api.OK {
			t.Errorf("Var(%q): %d, %d", name, h, e)
		}
		if h, e := c.Var(name); h != 0 || e != api.ErrName {
			t.Errorf("Var(%q) again: %d, %d", name, h, e)
		}
		if h, e := c.Restrict(c.Const(true), name, true); h != c.Const(true) || e != api.OK {
			t.Errorf("Restrict by %q: %d, %d", name, h, e)
		}
	}
	c, _ := start(t, 300, 0)
	for _, name := range []string{"", " ", "A", "Z", "0", "9a", "aA", "a_", "a.", "a ", " a", "a/", "a:", "a`", "`", "{", "a{", "/", ":", "a\x00", "\x00", "\xff", "ä", "aä", "abcdefghi", "a12345678"} {
		if h, e := c.Var(name); h != 0 || e != api.ErrName {
			t.Errorf("Var(%q): %d, %d", name, h, e)
		}
	}
	if _, e := c.Eval(c.Const(true), 1); e != api.ErrArg {
		t.Errorf("a refused variable is there: %d", e)
	}
}

// TestP4Many: at most MaxVars variables, each with a handle of its own.
func TestP4Many(t *testing.T) {
	c, v := start(t, 300, 6)
	for i, h := range v {
		if slices.Contains(v[:i], h) || h == c.Const(false) || h == c.Const(true) {
			t.Errorf("variable %d has the handle of another function: %v", i, v)
		}
		if got := read(t, c, h, 6); got != variableTable(i) {
			t.Errorf("variable %d: %x", i, got)
		}
		if n, e := c.Nodes([]int{h}); n != 1 || e != api.OK {
			t.Errorf("nodes of a variable: %d, %d", n, e)
		}
	}
	if h, e := c.Var("g"); h != 0 || e != api.ErrMany {
		t.Errorf("a seventh variable: %d, %d", h, e)
	}
	if _, e := c.Eval(v[0], 64); e != api.ErrArg {
		t.Errorf("the seventh variable is there: %d", e)
	}
}

// TestP4Full: a variable is a node.
func TestP4Full(t *testing.T) {
	for cap := 1; cap < 6; cap++ {
		c, _ := start(t, cap, cap)
		if h, e := c.Var("x"); h != 0 || e != api.ErrFull {
			t.Errorf("cap %d: one variable more: %d, %d", cap, h, e)
		}
		if _, e := c.Restrict(c.Const(true), "x", true); e != api.ErrName {
			t.Errorf("cap %d: the refused variable is there: %d", cap, e)
		}
	}
}

// TestP4Later: a variable that comes later changes no handle.
func TestP4Later(t *testing.T) {
	c, v := start(t, 300, 2)
	f := not(t, c, and(t, c, v[0], v[1]))
	c.Var("late")
	if got := read(t, c, f, 3); got != ^(variableTable(0) & variableTable(1)) {
		t.Errorf("the function of a handle: %x", got)
	}
	for _, v := range []bool{false, true} {
		if x, e := c.Restrict(f, "late", v); x != f || e != api.OK {
			t.Errorf("a function hangs on a later variable: %d, %d, want %d", x, e, f)
		}
	}
}

// TestP5Handles: a number below 0 is no handle, at each place.
func TestP5Handles(t *testing.T) {
	c, v := start(t, 300, 2)
	for _, h := range []int{-1, -2, -3, -1000, math.MinInt} {
		for i := range 3 {
			a := []int{v[0], v[1], v[0]}
			a[i] = h
			if x, e := c.Ite(a[0], a[1], a[2]); x != 0 || e != api.ErrHandle {
				t.Errorf("Ite with %d at place %d: %d, %d", h, i, x, e)
			}
			if x, e := c.Nodes(a); x != 0 || e != api.ErrHandle {
				t.Errorf("P6: Nodes with %d at place %d: %d, %d", h, i, x, e)
			}
		}
		if x, e := c.Ite(c.Const(true), v[0], h); x != 0 || e != api.ErrHandle {
			t.Errorf("Ite that does not need %d: %d, %d", h, x, e)
		}
		if x, e := c.Not(h); x != 0 || e != api.ErrHandle {
			t.Errorf("Not(%d): %d, %d", h, x, e)
		}
		if x, e := c.Restrict(h, "a", true); x != 0 || e != api.ErrHandle {
			t.Errorf("Restrict of %d: %d, %d", h, x, e)
		}
		if x, e := c.Eval(h, 0); x || e != api.ErrHandle {
			t.Errorf("P6: Eval of %d: %v, %d", h, x, e)
		}
		if x, e := c.Support(h); len(x) != 0 || e != api.ErrHandle {
			t.Errorf("P6: Support of %d: %v, %d", h, x, e)
		}
	}
}

// TestP5Alike: a function has one handle, by whatever way it came.
func TestP5Alike(t *testing.T) {
	c, v := start(t, 300, 2)
	f := and(t, c, v[0], v[1])
	if not(t, c, not(t, c, f)) != f {
		t.Errorf("the opposite of the opposite")
	}
	if and(t, c, v[1], v[0]) != f || ite(t, c, not(t, c, v[0]), c.Const(false), v[1]) != f {
		t.Errorf("one function has two handles")
	}
	if ite(t, c, f, c.Const(true), c.Const(false)) != f || ite(t, c, f, c.Const(false), c.Const(true)) != not(t, c, f) || ite(t, c, v[0], f, f) != f {
		t.Errorf("Ite that changes nothing")
	}
	if ite(t, c, f, not(t, c, f), f) != c.Const(false) || ite(t, c, f, f, not(t, c, f)) != c.Const(true) {
		t.Errorf("Ite that is a constant")
	}
}

// TestP5Restrict: ordinary and wrong names.
func TestP5Restrict(t *testing.T) {
	c, v := start(t, 300, 3)
	f := ite(t, c, v[0], v[1], v[2])
	for _, k := range []struct {
		name string
		v    bool
		want int
	}{
		{"a", true, v[1]},
		{"a", false, v[2]},
		{"b", false, ite(t, c, v[0], c.Const(false), v[2])},
		{"b", true, ite(t, c, v[0], c.Const(true), v[2])},
		{"c", false, and(t, c, v[0], v[1])},
	} {
		if x, e := c.Restrict(f, k.name, k.v); x != k.want || e != api.OK {
			t.Errorf("Restrict(f, %q, %v): %d, %d, want %d", k.name, k.v, x, e, k.want)
		}
		g := not(t, c, f)
		if x, e := c.Restrict(g, k.name, k.v); x != not(t, c, k.want) || e != api.OK {
			t.Errorf("Restrict(not f, %q, %v): %d, %d", k.name, k.v, x, e)
		}
	}
	for _, name := range []string{"", "d", "A", "aa", "a ", "abcdefghi"} {
		if x, e := c.Restrict(f, name, true); x != 0 || e != api.ErrName {
			t.Errorf("Restrict(f, %q, true): %d, %d", name, x, e)
		}
	}
}

// TestP5Full: the nodes of all live handles and of the answer count, and no others.
func TestP5Full(t *testing.T) {
	c, v := start(t, 4, 3)
	three := func() (int, api.Errno) { return c.Ite(v[0], v[1], not(t, c, v[2])) }
	f, e := three()
	if f <= 0 || e != api.OK {
		t.Fatalf("the fourth node: %d, %d", f, e)
	}
	if x, e := c.Ite(v[0], v[1], v[2]); x != 0 || e != api.ErrFull {
		t.Errorf("a fifth node: %d, %d", x, e)
	}
	if x, e := c.Restrict(f, "b", true); x != 0 || e != api.ErrFull {
		t.Errorf("Restrict to a fifth node: %d, %d", x, e)
	}
	if x, e := c.Restrict(f, "a", false); x != not(t, c, v[2]) || e != api.OK {
		t.Errorf("Restrict to a node that is there: %d, %d", x, e)
	}
	if x, e := c.Not(f); x <= 0 || x == f || e != api.OK {
		t.Errorf("the opposite needs no node: %d, %d", x, e)
	}
	if x, e := three(); x != f || e != api.OK {
		t.Errorf("what is there already: %d, %d", x, e)
	}
}

// TestP5FullLater: what was refused takes no room from what is asked for later.
func TestP5FullLater(t *testing.T) {
	c, v := start(t, 5, 3)
	f := and(t, c, v[0], v[1])
	for range 3 {
		if x, e := c.Ite(f, v[2], c.Const(false)); x != 0 || e != api.ErrFull {
			t.Errorf("a fifth and a sixth node: %d, %d", x, e)
		}
	}
	g := ite(t, c, v[1], c.Const(true), v[2])
	if n, e := c.Nodes([]int{v[0], v[1], v[2], f, g}); n != 5 || e != api.OK {
		t.Errorf("the nodes of a full copse: %d, %d", n, e)
	}
	if x, e := c.Ite(v[1], v[2], c.Const(false)); x != 0 || e != api.ErrFull {
		t.Errorf("what came up in a refused call has no room later: %d, %d", x, e)
	}
}

// TestP6Eval: each bit is the value of the variable of its number; what is no assignment is refused.
func TestP6Eval(t *testing.T) {
	for n := range api.MaxVars + 1 {
		c, v := start(t, 300, n)
		for _, f := range append(v, c.Const(false), c.Const(true)) {
			for _, a := range []int{math.MinInt, -64, -1, 1 << n, 1<<n + 1, 64, 1 << 32, math.MaxInt} {
				if x, e := c.Eval(f, a); x || e != api.ErrArg {
					t.Errorf("%d variables: Eval(.., %d): %v, %d", n, a, x, e)
				}
			}
		}
		for i, f := range v {
			for a := range 1 << n {
				if x, e := c.Eval(f, a); x != (a>>i&1 == 1) || e != api.OK {
					t.Errorf("%d variables: variable %d at %d: %v, %d", n, i, a, x, e)
				}
			}
		}
	}
}

// TestP6Support: only what a function hangs on, in the order.
func TestP6Support(t *testing.T) {
	c, v := start(t, 300, 6)
	for k, s := range []struct {
		f    int
		want []string
	}{
		{c.Const(false), nil},
		{c.Const(true), nil},
		{v[5], []string{"f"}},
		{not(t, c, v[0]), []string{"a"}},
		{and(t, c, v[4], v[1]), []string{"b", "e"}},
		{ite(t, c, v[5], v[3], v[0]), []string{"a", "d", "f"}},
		{ite(t, c, v[2], v[3], v[3]), []string{"d"}},
	} {
		if l, e := c.Support(s.f); !slices.Equal(l, s.want) || e != api.OK {
			t.Errorf("line %d: %v, %d, want %v", k, l, e, s.want)
		}
	}
}

// TestP6Nodes: the document's example, and lists of all kinds.
func TestP6Nodes(t *testing.T) {
	c, v := start(t, 300, 2)
	f := and(t, c, v[0], v[1])
	for k, s := range []struct {
		fs   []int
		want int
	}{
		{nil, 0},
		{[]int{}, 0},
		{[]int{c.Const(true), c.Const(false)}, 0},
		{[]int{f}, 2},
		{[]int{v[0], v[1], f}, 3},
		{[]int{f, f, not(t, c, f)}, 2},
		{[]int{v[1], not(t, c, v[1])}, 1},
		{slices.Repeat([]int{f}, 100000), 2},
	} {
		if n, e := c.Nodes(s.fs); n != s.want || e != api.OK {
			t.Errorf("line %d: %d, %d, want %d", k, n, e, s.want)
		}
	}
}
