package copse_test

import (
	"math"
	"slices"
	"testing"

	"copse/api"
	"copse/copse"
)

// TestP7Order: a new variable is the last, a refused one is not there.
func TestP7Order(t *testing.T) {
	c, _ := start(t, 4, 0)
	if l := c.Order(); len(l) != 0 {
		t.Errorf("without variables: %v", l)
	}
	for i, name := range []string{"z", "y", "x", "w", "v"} {
		if _, e := c.Var(name); (e == api.OK) != (i < 4) {
			t.Fatalf("Var(%q): %d", name, e)
		}
		if l, want := c.Order(), []string{"z", "y", "x", "w"}[:min(i+1, 4)]; !slices.Equal(l, want) {
			t.Errorf("Order: %v, want %v", l, want)
		}
	}
	move(t, c, "w", 0)
	collect(t, c)
	if _, e := c.Var("v"); e != api.OK || !slices.Equal(c.Order(), []string{"w", "z", "y", "x", "v"}) {
		t.Errorf("a variable behind Move: %d, %v", e, c.Order())
	}
}

// TestP7Live: each node counts once, whoever's it is.
func TestP7Live(t *testing.T) {
	empty, _ := start(t, 300, 0)
	if n := empty.Live(); n != 0 {
		t.Errorf("Live of a new copse: %d", n)
	}
	c, v := start(t, 300, 3)
	live := func(what string, want int) {
		t.Helper()
		if n := c.Live(); n != want {
			t.Errorf("%s: %d live nodes, want %d", what, n, want)
		}
	}
	live("variables", 3)
	f := and(t, c, v[0], v[1])
	live("a and b", 4)
	not(t, c, f)
	live("its opposite", 4)
	and(t, c, v[0], v[1])
	live("the same again", 4)
	and(t, c, f, v[2])
	live("a and b and c: itself, and b and c", 6)
	and(t, c, v[1], v[2])
	live("b and c, which is there", 6)
}

// TestP7Collect: what is kept is live, and nothing else counts.
func TestP7Collect(t *testing.T) {
	c, v := start(t, 300, 4)
	f := and(t, c, v[0], and(t, c, v[1], v[2]))
	g := not(t, c, ite(t, c, v[2], v[3], c.Const(false)))
	for k, s := range []struct {
		keep []int
		want int
	}{
		{[]int{v[0], v[1], v[2], v[3], f, g}, 7}, // b and c is a node of f still
		{[]int{f, g, f, c.Const(false), f, g}, 5},
		{[]int{g, f}, 5},
		{[]int{f}, 3},
		{[]int{f, f}, 3},
		{[]int{c.Const(true)}, 0},
		{[]int{}, 0},
		{nil, 0},
	} {
		collect(t, c, s.keep...)
		if c.Live() != s.want {
			t.Errorf("line %d: %d live nodes, want %d", k, c.Live(), s.want)
		}
		if n, e := c.Nodes(s.keep); n != s.want || e != api.OK {
			t.Errorf("line %d: the nodes of what is kept: %d, %d", k, n, e)
		}
		if len(s.keep) > 0 && s.keep[0] == f && read(t, c, f, 4) != variableTable(0)&variableTable(1)&variableTable(2) {
			t.Errorf("line %d: a kept handle is another function", k)
		}
	}
	if !slices.Equal(c.Order(), names[:4]) {
		t.Errorf("Collect lets variables go: %v", c.Order())
	}
	if x, e := c.Restrict(c.Const(true), "a", true); x != c.Const(true) || e != api.OK {
		t.Errorf("a variable whose handle is not kept: %d, %d", x, e)
	}
}

// TestP7CollectWrong: a number below 0 at any place, and nothing is let go.
func TestP7CollectWrong(t *testing.T) {
	c, v := start(t, 300, 3)
	for _, h := range []int{-1, -2, -3, math.MinInt} {
		for i := range 3 {
			keep := []int{v[0], v[0], v[0]}
			keep[i] = h
			if e := c.Collect(keep); e != api.ErrHandle || c.Live() != 3 {
				t.Errorf("Collect(%v): %d, %d live nodes", keep, e, c.Live())
			}
		}
	}
	for i, h := range v {
		if read(t, c, h, 3) != variableTable(i) {
			t.Errorf("behind a refused Collect a handle is another function")
		}
	}
}

// TestP7CollectOpposite: of a function and its opposite one may be kept alone.
func TestP7CollectOpposite(t *testing.T) {
	c, v := start(t, 300, 2)
	f := not(t, c, and(t, c, v[0], v[1]))
	collect(t, c, f)
	if c.Live() != 2 || read(t, c, f, 2) != ^(variableTable(0)&variableTable(1)) {
		t.Errorf("the opposite alone: %d live nodes", c.Live())
	}
	if g := not(t, c, f); g == f || read(t, c, g, 2) != variableTable(0)&variableTable(1) {
		t.Errorf("what was let go comes again: %d", g)
	}
}

// TestP7Room: what is let go leaves room, and its numbers may come to stand for other functions, of which nothing that was kept for speed knows.
func TestP7Room(t *testing.T) {
	c, v := start(t, 6, 4)
	for range 3 {
		for i := range 3 {
			f, g := and(t, c, v[i], v[i+1]), ite(t, c, v[i], v[i+1], not(t, c, v[i+1]))
			if x, e := c.Ite(v[(i+2)%4], c.Const(true), v[(i+3)%4]); x != 0 || e != api.ErrFull {
				t.Errorf("more than six nodes: %d, %d", x, e)
			}
			if read(t, c, f, 4) != variableTable(i)&variableTable(i+1) || read(t, c, g, 4) != ^(variableTable(i)^variableTable(i+1)) {
				t.Errorf("a handle is another function: %d, %d", f, g)
			}
			collect(t, c, v...)
		}
	}
}

// TestP8Places: each variable to each place, from a few orders.
func TestP8Places(t *testing.T) {
	for n := 1; n <= api.MaxVars; n++ {
		for variable := range n {
			for to := range n {
				c, v := start(t, 300, n)
				order := []int{0, 1, 2, 3, 4, 5}[:n]
				f := v[0]
				for _, x := range v {
					f = ite(t, c, f, not(t, c, x), f)
				}
				want := read(t, c, f, n)
				for _, m := range [][2]int{{variable, to}, {variable, to}, {to, variable}, {n - 1, 0}, {0, n - 1}} {
					move(t, c, names[m[0]], m[1])
					order = moveTo(order, m[0], m[1])
					if l := c.Order(); !slices.Equal(l, namesOf(order)) {
						t.Fatalf("Move(%q, %d): %v, want %v", names[m[0]], m[1], l, namesOf(order))
					}
				}
				if read(t, c, f, n) != want {
					t.Errorf("behind Moves a handle is another function")
				}
			}
		}
	}
}

// TestP8Wrong: what is no name, or no place, in any copse.
func TestP8Wrong(t *testing.T) {
	for n := range api.MaxVars + 1 {
		c, _ := start(t, 300, n)
		for _, name := range oddTexts {
			for to := range n + 1 {
				if e := c.Move(name, to); !slices.Contains(names[:n], name) && e != api.ErrName {
					t.Errorf("%d variables: Move(%q, %d): %d", n, name, to, e)
				}
			}
		}
		for _, to := range []int{math.MinInt, -6, -1, n, n + 1, 6, 300, math.MaxInt} {
			for _, name := range names[:n] {
				if e := c.Move(name, to); e != api.ErrArg {
					t.Errorf("%d variables: Move(%q, %d): %d", n, name, to, e)
				}
			}
		}
		collect(t, c)
		if len(c.Order()) != n {
			t.Errorf("%d variables: %v", n, c.Order())
		}
	}
}

// TestP8Example: the document's example of Move, as far as other calls show it.
func TestP8Example(t *testing.T) {
	c, v := start(t, 300, 2)
	f := and(t, c, v[0], v[1])
	move(t, c, "b", 0)
	if l, e := c.Support(f); !slices.Equal(l, []string{"b", "a"}) || e != api.OK {
		t.Errorf("Support: %v, %d", l, e)
	}
	if n, e := c.Nodes([]int{f, v[0]}); n != 2 || e != api.OK { // a is its Then now
		t.Errorf("Nodes of f and a: %d, %d", n, e)
	}
	if n, e := c.Nodes([]int{f, v[1]}); n != 3 || e != api.OK {
		t.Errorf("Nodes of f and b: %d, %d", n, e)
	}
	if and(t, c, v[1], v[0]) != f || c.Live() != 3 {
		t.Errorf("the same function in another order: %d live nodes", c.Live())
	}
}

// tight is a copse as full as it may be, whose one way from the order with a at the first place to that with a at the fourth leads through orders with more nodes than there is room for.
func tight(t *testing.T) (*copse.Copse, []int) {
	c, v := start(t, 11, 6)
	no, yes := c.Const(false), c.Const(true)
	f := ite(t, c, v[1], no, not(t, c, v[2]))
	f = ite(t, c, v[0], no, ite(t, c, v[3], f, yes))
	x, y := v[4], v[5]
	collect(t, c, f, x, y)
	live := []int{f, x, y, and(t, c, x, y), ite(t, c, x, yes, y), ite(t, c, x, no, y), ite(t, c, x, not(t, c, y), no), ite(t, c, x, y, not(t, c, y))}
	if c.Live() != 11 {
		t.Fatalf("not full: %d live nodes", c.Live())
	}
	return c, live
}

// TestP8Full: only the order at which a variable comes to stand must have room.
func TestP8Full(t *testing.T) {
	c, live := tight(t)
	want := map[int]table{}
	for _, h := range live {
		want[h] = read(t, c, h, 6)
	}
	for k, m := range []struct {
		name string
		to   int
		e    api.Errno
		want []string
	}{
		{"a", 1, api.ErrFull, []string{"a", "b", "c", "d", "e", "f"}},
		{"a", 2, api.ErrFull, []string{"a", "b", "c", "d", "e", "f"}},
		{"a", 0, api.OK, []string{"a", "b", "c", "d", "e", "f"}},
		{"a", 3, api.OK, []string{"b", "c", "d", "a", "e", "f"}},
		{"a", 2, api.ErrFull, []string{"b", "c", "d", "a", "e", "f"}},
		{"a", 5, api.OK, []string{"b", "c", "d", "e", "f", "a"}},
		{"a", 0, api.OK, []string{"a", "b", "c", "d", "e", "f"}},
	} {
		if e := c.Move(m.name, m.to); e != m.e || !slices.Equal(c.Order(), m.want) || c.Live() != 11 {
			t.Errorf("line %d: %d, %v, %d live nodes", k, e, c.Order(), c.Live())
		}
		for _, h := range live {
			if read(t, c, h, 6) != want[h] {
				t.Errorf("line %d: the handle %d is another function", k, h)
			}
		}
	}
}

// TestP8SiftFull: Sift has no more room than Move, and needs none.
func TestP8SiftFull(t *testing.T) {
	c, live := tight(t)
	var fs []table
	for _, h := range live {
		fs = append(fs, read(t, c, h, 6))
	}
	want := siftOrder([]int{0, 1, 2, 3, 4, 5}, fs...)
	c.Sift()
	if !slices.Equal(c.Order(), namesOf(want)) || c.Live() != countNodes(want, fs...) {
		t.Errorf("%v, %d live nodes, want %v, %d", c.Order(), c.Live(), namesOf(want), countNodes(want, fs...))
	}
	for i, h := range live {
		if read(t, c, h, 6) != fs[i] {
			t.Errorf("the handle %d is another function", h)
		}
	}
}

// TestP8SiftFirst: of several places the first, the variables by their numbers, wherever they are.
func TestP8SiftFirst(t *testing.T) {
	c, v := start(t, 300, 3)
	move(t, c, "c", 0)
	c.Sift()
	if l := c.Order(); !slices.Equal(l, []string{"c", "b", "a"}) {
		t.Errorf("any order is as good: %v", l)
	}
	c.Sift()
	if l := c.Order(); !slices.Equal(l, []string{"c", "b", "a"}) {
		t.Errorf("again: %v", l)
	}
	f := ite(t, c, v[0], v[1], v[2])
	collect(t, c, f)
	c.Sift()
	if l := c.Order(); !slices.Equal(l, []string{"a", "c", "b"}) || c.Live() != 3 {
		t.Errorf("a is best first, then c ahead of b: %v, %d live nodes", l, c.Live())
	}
}

// TestP8SiftPairs: what belongs together comes together.
func TestP8SiftPairs(t *testing.T) {
	c, v := start(t, 300, 6)
	f := pairs(t, c, []int{v[0], v[3], v[1], v[4], v[2], v[5]})
	collect(t, c, f)
	if c.Live() != 14 {
		t.Fatalf("in a bad order: %d live nodes", c.Live())
	}
	c.Sift()
	if l := c.Order(); !slices.Equal(l, []string{"d", "a", "e", "b", "f", "c"}) || c.Live() != 6 {
		t.Errorf("Sift: %v, %d live nodes", l, c.Live())
	}
	if n, e := c.Nodes([]int{f}); n != 6 || e != api.OK {
		t.Errorf("Nodes: %d, %d", n, e)
	}
}

// TestP8SiftLive: handles that are no longer live have no say.
func TestP8SiftLive(t *testing.T) {
	c, v := start(t, 300, 6)
	other := pairs(t, c, []int{v[0], v[3], v[1], v[4], v[2], v[5]})
	f := pairs(t, c, []int{v[5], v[0], v[1], v[2], v[3], v[4]})
	table := read(t, c, f, 6)
	want := siftOrder([]int{0, 1, 2, 3, 4, 5}, table)
	if both := siftOrder([]int{0, 1, 2, 3, 4, 5}, table, read(t, c, other, 6)); slices.Equal(both, want) {
		t.Fatalf("the other function would have no say: %v", both)
	}
	collect(t, c, f)
	c.Sift()
	if l := c.Order(); !slices.Equal(l, namesOf(want)) {
		t.Errorf("Sift: %v, want %v", l, namesOf(want))
	}
}

// TestP8SiftFew: without variables, and with one.
func TestP8SiftFew(t *testing.T) {
	for n := range 2 {
		c, _ := start(t, 1, n)
		c.Sift()
		if !slices.Equal(c.Order(), names[:n]) || c.Live() != n {
			t.Errorf("%d variables: %v, %d live nodes", n, c.Order(), c.Live())
		}
	}
}

// TestP8Refused: a refused Move leaves no trace: later handles have the numbers that they would have had.
func TestP8Refused(t *testing.T) {
	answers := func(refuse bool) []int {
		c, live := tight(t)
		if refuse {
			for _, to := range []int{1, 2, 1} {
				if e := c.Move("a", to); e != api.ErrFull {
					t.Fatalf("Move(\"a\", %d): %d", to, e)
				}
			}
		}
		collect(t, c, live[0])
		var told []int
		for _, name := range names[:4] {
			for _, v := range []bool{false, true} {
				h, _ := c.Restrict(live[0], name, v)
				told = append(told, h)
			}
		}
		return told
	}
	if with, without := answers(true), answers(false); !slices.Equal(with, without) {
		t.Errorf("%v, want %v", with, without)
	}
}
