package copse_test

import (
	"maps"
	"math"
	"slices"
	"testing"

	"copse/api"
	"copse/copse"
)

// table is a function of MaxVars variables, written out: bit a is what it tells for the assignment a. The tests hold the program against it.
type table uint64

const (
	never  table = 0
	always table = ^never
)

var names = []string{"a", "b", "c", "d", "e", "f"}

// variableTable is the function that tells the value of a variable.
func variableTable(variable int) table {
	return [api.MaxVars]table{0xaaaaaaaaaaaaaaaa, 0xcccccccccccccccc, 0xf0f0f0f0f0f0f0f0, 0xff00ff00ff00ff00, 0xffff0000ffff0000, 0xffffffff00000000}[variable]
}

func iteTable(f, g, h table) table { return f&g | ^f&h }

// restrictTable is what f is when a variable has a value; the two halves of the table that differ in it alone become alike.
func restrictTable(f table, variable int, v bool) table {
	shift, mask := 1<<variable, variableTable(variable)
	if v {
		return f&mask | f&mask>>shift
	}
	return f&^mask | f&^mask<<shift
}

func hangsOn(f table, variable int) bool {
	return restrictTable(f, variable, true) != restrictTable(f, variable, false)
}

// addNodes puts the nodes of some functions, in an order, into the set as the document words them: what comes out when the first so many variables are given any values, one of each two opposites, without the constants.
func addNodes(set map[table]bool, order []int, fs ...table) {
	parts := map[table]bool{}
	put := func(f table) { parts[min(f, ^f)] = true }
	for _, f := range fs {
		put(f)
	}
	for _, variable := range order {
		maps.Copy(set, parts)
		now := parts
		parts = map[table]bool{}
		for f := range now {
			put(restrictTable(f, variable, true))
			put(restrictTable(f, variable, false))
		}
	}
	delete(set, never)
}

// countNodes is how many nodes some functions have together in an order.
func countNodes(order []int, fs ...table) int {
	set := map[table]bool{}
	addNodes(set, order, fs...)
	return len(set)
}

// moveTo is an order with one variable at another place.
func moveTo(order []int, variable, to int) []int {
	others := slices.DeleteFunc(slices.Clone(order), func(v int) bool { return v == variable })
	return slices.Insert(others, to, variable)
}

// siftOrder is the order that Sift has to find for some functions.
func siftOrder(order []int, fs ...table) []int {
	for variable := range order {
		fewest := math.MaxInt
		now := order
		for to := range now {
			if moved := moveTo(now, variable, to); countNodes(moved, fs...) < fewest {
				fewest, order = countNodes(moved, fs...), moved
			}
		}
	}
	return order
}

func namesOf(order []int) []string {
	var l []string
	for _, variable := range order {
		l = append(l, names[variable])
	}
	return l
}

// start makes a copse with the first n of the names.
func start(t *testing.T, cap int, n int) (*copse.Copse, []int) {
	t.Helper()
	c, e := copse.New(cap)
	if c == nil || e != api.OK {
		t.Fatalf("New(%d): %d", cap, e)
	}
	var handles []int
	for _, name := range names[:n] {
		h, e := c.Var(name)
		if e != api.OK {
			t.Fatalf("Var(%q): %d", name, e)
		}
		handles = append(handles, h)
	}
	return c, handles
}

func ite(t *testing.T, c *copse.Copse, f, g, h int) int {
	t.Helper()
	x, e := c.Ite(f, g, h)
	if e != api.OK {
		t.Fatalf("Ite(%d, %d, %d): %d", f, g, h, e)
	}
	return x
}

func not(t *testing.T, c *copse.Copse, f int) int {
	t.Helper()
	x, e := c.Not(f)
	if e != api.OK {
		t.Fatalf("Not(%d): %d", f, e)
	}
	return x
}

func and(t *testing.T, c *copse.Copse, f, g int) int {
	t.Helper()
	return ite(t, c, f, g, c.Const(false))
}

// read tells the table of a handle, by Eval alone.
func read(t *testing.T, c *copse.Copse, f int, n int) table {
	t.Helper()
	r := never
	for a := range 1 << api.MaxVars {
		v, e := c.Eval(f, a&(1<<n-1))
		if e != api.OK {
			t.Fatalf("Eval(%d, %d): %d", f, a&(1<<n-1), e)
		}
		if v {
			r |= 1 << a
		}
	}
	return r
}

// pairs is: a and b, or c and d, or e and f.
func pairs(t *testing.T, c *copse.Copse, v []int) int {
	t.Helper()
	f := c.Const(false)
	for i := 0; i < len(v); i += 2 {
		f = ite(t, c, f, c.Const(true), and(t, c, v[i], v[i+1]))
	}
	return f
}

func move(t *testing.T, c *copse.Copse, name string, to int) {
	t.Helper()
	if e := c.Move(name, to); e != api.OK {
		t.Fatalf("Move(%q, %d): %d", name, to, e)
	}
}

func collect(t *testing.T, c *copse.Copse, keep ...int) {
	t.Helper()
	if e := c.Collect(keep); e != api.OK {
		t.Fatalf("Collect(%v): %d", keep, e)
	}
}
