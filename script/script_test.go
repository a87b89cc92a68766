package script

import (
	"hash/crc32"
	"slices"
	"strings"
	"testing"

	"copse/api"
	"copse/graph"
)

func TestIsName(t *testing.T) {
	for _, name := range []string{"a", "z", "a0", "z9", "abcdefgh", "a1234567"} {
		if !IsName(name) {
			t.Errorf("%q is a name", name)
		}
	}
	for _, name := range []string{"", "A", "0", "0a", "aA", "a_", "a ", " a", "`", "{", "a/", "a:", "\x00", "a\n", "ä", "abcdefghi"} {
		if IsName(name) {
			t.Errorf("%q is no name", name)
		}
	}
}

func TestCheck(t *testing.T) {
	if got := check(nil); got != 0 {
		t.Errorf("of nothing: %x", got)
	}
	if got := check([]byte("123456789")); got != 0xcbf43926 {
		t.Errorf("of nine digits: %x", got)
	}
	var bytes []byte
	for i := range 2000 {
		bytes = append(bytes, byte(i*i>>3))
		if got, want := check(bytes), crc32.ChecksumIEEE(bytes); got != want {
			t.Fatalf("of %d bytes: %x, want %x", len(bytes), got, want)
		}
	}
}

// choice is: the first variable where the second is true, and the third where it is false; beside it stand two simpler functions.
func choice() Script {
	g := graph.New()
	x, y, z := g.AddVariable(), g.AddVariable(), g.AddVariable()
	g.Move(2, 0)
	return Script{[]string{"x", "y", "z"}, g, []graph.Ref{g.Ite(y, x, z), y.Not(), graph.False}}
}

func TestWrite(t *testing.T) {
	want := "copse\nvars 3\nz\nx\ny\nnodes 4\n2 0 -0\n1 0 -1\n1 1 -0\n0 2 3\nroots 3\n4\n-1\n-0\nend\n"
	if got := choice().Write(api.Text); got != want {
		t.Errorf("%q, want %q", got, want)
	}
	body := "COPS\x03\x01z\x01x\x01y\x00\x04\x02\x00\x00\x00\x01\x01\x00\x00\x00\x03\x01\x00\x02\x00\x01\x00\x00\x04\x00\x06\x03\x00\x08\x00\x03\x00\x01"
	got := choice().Write(api.Binary)
	if len(got) < 4 || got[:len(got)-4] != body {
		t.Errorf("%q, want %q", got, body)
	}
}

func TestReadBack(t *testing.T) {
	for _, format := range []int{api.Text, api.Binary} {
		bytes := choice().Write(format)
		s, ok := Read(format, bytes)
		if !ok || !slices.Equal(s.Names, []string{"z", "x", "y"}) || !slices.Equal(s.Graph.Order(), []int{0, 1, 2}) || len(s.Roots) != 3 {
			t.Fatalf("format %d: %v, %v", format, s, ok)
		}
		for a := range 8 {
			z, x, y := a&1 == 1, a&2 == 2, a&4 == 4
			if want := y && x || !y && z; s.Graph.Eval(s.Roots[0], a) != want || s.Graph.Eval(s.Roots[1], a) == y || s.Graph.Eval(s.Roots[2], a) {
				t.Errorf("format %d: at %d", format, a)
			}
		}
		if s.Write(format) != bytes {
			t.Errorf("format %d: written again: %q", format, s.Write(format))
		}
	}
}

func TestReadRefuses(t *testing.T) {
	for _, format := range []int{api.Text, api.Binary} {
		good := choice().Write(format)
		for _, bad := range []string{"", good[1:], good[:len(good)-1], good + "\n", choice().Write(1 - format), strings.Replace(good, "z", "x", 1), strings.Replace(good, "z", "Z", 1)} {
			if s, ok := Read(format, bad); ok || s.Names != nil || s.Graph != nil || s.Roots != nil {
				t.Errorf("format %d: %q: %v, %v", format, bad, s, ok)
			}
		}
	}
}

// Readers tell something at every place, behind the end too.
func TestReadersEnd(t *testing.T) {
	for _, bytes := range []string{"", "c", "copse", "COPS", "COPS\x05", "copse vars"} {
		for _, format := range []int{api.Text, api.Binary} {
			r := newReader(format, bytes)
			for range 3 {
				r.vars()
				r.name()
				r.nodes()
				r.level()
				r.reference()
				r.roots()
			}
			if name := r.name(); name != "" {
				t.Errorf("format %d: behind the end of %q: %q", format, bytes, name)
			}
		}
	}
}

func TestNumber(t *testing.T) {
	for _, k := range []struct {
		digits string
		want   int
	}{{"0", 0}, {"1", 1}, {"65535", 65535}, {"65536", -1}, {"99999999999999999999", -1}, {"", -1}, {"-1", -1}, {"+1", -1}, {"x", -1}, {"1_0", -1}, {"0x1", -1}} {
		if got := number(k.digits); got != k.want {
			t.Errorf("%q: %d, want %d", k.digits, got, k.want)
		}
	}
}
