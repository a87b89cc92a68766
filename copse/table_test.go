package copse_test

import (
	"testing"

	"copse/api"
	"copse/copse"
)

// table is a function of MaxVars variables, written out: bit a is what it tells for the assignment a. The tests hold the program against it.
type table uint64

const (
	never  table = 0
	always table = ^never
)

var names = []string{"a", "b", "c", "d", "e", "f"}

// variableTable is the function that tells the value of a variable.
func variableTable(variable int) table {
	t := never
	for a := range 1 << api.MaxVars {
		t |= table(a>>variable&1) << a
	}
	return t
}

func iteTable(f, g, h table) table { return f&g | ^f&h }

func restrictTable(f table, variable int, v bool) table {
	t := never
	for a := range 1 << api.MaxVars {
		b := a &^ (1 << variable)
		if v {
			b |= 1 << variable
		}
		t |= f >> b & 1 << a
	}
	return t
}

func hangsOn(f table, variable int) bool {
	return restrictTable(f, variable, true) != restrictTable(f, variable, false)
}

// addNodes puts the nodes of f into the set as the document words them: what comes out when the first so many variables are given any values, one of each two opposites, without the constants.
func addNodes(set map[table]bool, f table) {
	parts := []table{f}
	for variable := 0; ; variable++ {
		for _, p := range parts {
			if p != never && p != always {
				set[min(p, ^p)] = true
			}
		}
		if variable == api.MaxVars {
			return
		}
		var next []table
		for _, p := range parts {
			next = append(next, restrictTable(p, variable, true), restrictTable(p, variable, false))
		}
		parts = next
	}
}

// countNodes is how many nodes some functions have together.
func countNodes(fs ...table) int {
	set := map[table]bool{}
	for _, f := range fs {
		addNodes(set, f)
	}
	return len(set)
}

// start makes a copse with the first n of the names.
func start(t *testing.T, cap int, n int) (*copse.Copse, []int) {
	t.Helper()
	c, e := copse.New(cap)
	if c == nil || e != api.OK {
		t.Fatalf("New(%d): %d", cap, e)
	}
	var handles []int
	for _, name := range names[:n] {
		h, e := c.Var(name)
		if e != api.OK {
			t.Fatalf("Var(%q): %d", name, e)
		}
		handles = append(handles, h)
	}
	return c, handles
}

func ite(t *testing.T, c *copse.Copse, f, g, h int) int {
	t.Helper()
	x, e := c.Ite(f, g, h)
	if e != api.OK {
		t.Fatalf("Ite(%d, %d, %d): %d", f, g, h, e)
	}
	return x
}

func not(t *testing.T, c *copse.Copse, f int) int {
	t.Helper()
	x, e := c.Not(f)
	if e != api.OK {
		t.Fatalf("Not(%d): %d", f, e)
	}
	return x
}

func and(t *testing.T, c *copse.Copse, f, g int) int {
	t.Helper()
	return ite(t, c, f, g, c.Const(false))
}

// read tells the table of a handle, by Eval alone.
func read(t *testing.T, c *copse.Copse, f int, n int) table {
	t.Helper()
	r := never
	for a := range 1 << api.MaxVars {
		v, e := c.Eval(f, a&(1<<n-1))
		if e != api.OK {
			t.Fatalf("Eval(%d, %d): %d", f, a&(1<<n-1), e)
		}
		if v {
			r |= 1 << a
		}
	}
	return r
}
