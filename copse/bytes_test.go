package copse_test

import (
	"fmt"
	"math"
	"runtime"
	"slices"
	"strings"
	"testing"
	"time"

	"copse/api"
	"copse/copse"
)

// lines is a script as text, without its first line and its last.
func lines(l ...string) string { return "copse\n" + strings.Join(l, "\n") + "\nend\n" }

func export(t *testing.T, c *copse.Copse, format int, roots ...int) string {
	t.Helper()
	s, e := c.Export(format, roots)
	if e != api.OK {
		t.Fatalf("Export(%d, %v): %d", format, roots, e)
	}
	return s
}

func imported(t *testing.T, c *copse.Copse, format int, bytes string) []int {
	t.Helper()
	l, e := c.Import(format, bytes)
	if e != api.OK {
		t.Fatalf("Import(%d, %q): %d", format, bytes, e)
	}
	return l
}

// chance is a function of the first n variables, of which nothing is known.
func (s *steps) chance(n int) table {
	f := never
	for i := range 4 {
		f |= table(s.below(1<<16)) << (16 * i)
	}
	for variable := n; variable < api.MaxVars; variable++ {
		f = restrictTable(f, variable, s.below(2) == 1)
	}
	return f
}

func (s *steps) chances(many, n int) []table {
	var fs []table
	for range many {
		fs = append(fs, s.chance(n))
	}
	return fs
}

// greatest is sixteen functions with as many nodes as sixteen can have in the order f, e, d, c, b, a: they have all functions of a, b and c among their parts.
func greatest() []table {
	fs := make([]table, 16)
	for i := range 128 {
		fs[i/8] |= table(i) << (i % 8 * 8)
	}
	return fs
}

var backwards = []int{5, 4, 3, 2, 1, 0}

// TestP9Examples: those of the document, and others that can be written down by hand.
func TestP9Examples(t *testing.T) {
	c, v := start(t, 300, 3)
	no, yes := c.Const(false), c.Const(true)
	f := and(t, c, v[0], v[1])
	g := not(t, c, f)
	odd := ite(t, c, v[0], not(t, c, v[1]), v[1])
	choice := ite(t, c, v[0], v[1], v[2])
	for k, s := range []struct {
		roots []int
		text  string
		body  string
	}{
		{[]int{f, g}, lines("vars 2", "a", "b", "nodes 2", "1 0 -0", "0 1 -0", "roots 2", "2", "-2"), "COPS\x02\x01a\x01b\x00\x02\x01\x00\x00\x00\x01\x00\x00\x02\x00\x01\x02\x00\x04\x00\x05"},
		{[]int{no}, lines("vars 0", "nodes 0", "roots 1", "-0"), "\x43\x4f\x50\x53\x00\x00\x00\x01\x00\x01"},
		{[]int{yes}, lines("vars 0", "nodes 0", "roots 1", "0"), "COPS\x00\x00\x00\x01\x00\x00"},
		{[]int{no, yes, no}, lines("vars 0", "nodes 0", "roots 3", "-0", "0", "-0"), "COPS\x00\x00\x00\x03\x00\x01\x00\x00\x00\x01"},
		{[]int{v[2]}, lines("vars 1", "c", "nodes 1", "0 0 -0", "roots 1", "1"), "COPS\x01\x01c\x00\x01\x00\x00\x00\x00\x01\x01\x00\x02"},
		{[]int{not(t, c, v[1])}, lines("vars 1", "b", "nodes 1", "0 0 -0", "roots 1", "-1"), "COPS\x01\x01b\x00\x01\x00\x00\x00\x00\x01\x01\x00\x03"},
		{[]int{odd}, lines("vars 2", "a", "b", "nodes 2", "1 0 -0", "0 1 -1", "roots 1", "-2"), "COPS\x02\x01a\x01b\x00\x02\x01\x00\x00\x00\x01\x00\x00\x02\x00\x03\x01\x00\x05"},
		{[]int{v[1], v[0]}, lines("vars 2", "a", "b", "nodes 2", "1 0 -0", "0 0 -0", "roots 2", "1", "2"), "COPS\x02\x01a\x01b\x00\x02\x01\x00\x00\x00\x01\x00\x00\x00\x00\x01\x02\x00\x02\x00\x04"},
		{[]int{choice}, lines("vars 3", "a", "b", "c", "nodes 3", "1 0 -0", "2 0 -0", "0 1 2", "roots 1", "3"), "COPS\x03\x01a\x01b\x01c\x00\x03\x01\x00\x00\x00\x01\x02\x00\x00\x00\x01\x00\x00\x02\x00\x04\x01\x00\x06"},
		{[]int{v[2], choice, f, choice}, lines("vars 3", "a", "b", "c", "nodes 4", "2 0 -0", "1 0 -0", "0 2 1", "0 2 -0", "roots 4", "1", "3", "4", "3"), "COPS\x03\x01a\x01b\x01c\x00\x04\x02\x00\x00\x00\x01\x01\x00\x00\x00\x01\x00\x00\x04\x00\x02\x00\x00\x04\x00\x01\x04\x00\x02\x00\x06\x00\x08\x00\x06"},
	} {
		for format, want := range []string{s.text, sealed(s.body)} {
			if got, e := c.Export(format, s.roots); got != want || e != api.OK {
				t.Errorf("line %d, format %d: %q, %d, want %q", k, format, got, e, want)
			}
		}
	}
	if got := export(t, c, 1, no); got[10:] != "\xa6\xf2\x42\x4e" {
		t.Errorf("the check: %x", got[10:])
	}
	move(t, c, "b", 0)
	if got := export(t, c, 0, f); got != lines("vars 2", "b", "a", "nodes 2", "1 0 -0", "0 1 -0", "roots 1", "2") {
		t.Errorf("in another order: %q", got)
	}
	if got := export(t, c, 0, v[2], v[0]); got != lines("vars 2", "a", "c", "nodes 2", "1 0 -0", "0 0 -0", "roots 2", "1", "2") {
		t.Errorf("levels are counted among the vars: %q", got)
	}
}

// TestP9Wrong: what is no format, too few and too many roots, and what is no handle.
func TestP9Wrong(t *testing.T) {
	c, v := start(t, 300, 2)
	many := slices.Repeat([]int{v[0]}, 17)
	wrong := slices.Repeat([]int{-1}, 17)
	for k, s := range []struct {
		format int
		roots  []int
		want   api.Errno
	}{
		{-1, v, api.ErrArg},
		{2, v, api.ErrArg},
		{256, v, api.ErrArg},
		{math.MinInt, v, api.ErrArg},
		{math.MaxInt, v, api.ErrArg},
		{0, nil, api.ErrArg},
		{1, []int{}, api.ErrArg},
		{0, many, api.ErrArg},
		{1, many, api.ErrArg},
		{0, wrong, api.ErrArg},
		{2, wrong[:1], api.ErrArg},
		{-1, wrong[:1], api.ErrArg},
		{0, wrong[:1], api.ErrHandle},
		{1, wrong[:16], api.ErrHandle},
		{0, append(slices.Repeat(v[:1], 15), -1), api.ErrHandle},
		{1, []int{math.MinInt, v[0]}, api.ErrHandle},
	} {
		if got, e := c.Export(s.format, s.roots); got != "" || e != s.want {
			t.Errorf("line %d: %q, %d, want %d", k, got, e, s.want)
		}
	}
	if c.Live() != 2 || !slices.Equal(c.Order(), names[:2]) {
		t.Errorf("Export changed something: %d live nodes, %v", c.Live(), c.Order())
	}
}

// TestP9Many: one to sixteen functions, held against functions written out.
func TestP9Many(t *testing.T) {
	s := steps(9)
	for many := 1; many <= api.MaxRoots; many++ {
		c, _ := start(t, 300, 6)
		fs := s.chances(many, 6)
		fs[many-1] = ^fs[0]
		roots := imported(t, c, 0, bytesOf(0, backwards, fs...))
		for format := range 2 {
			if got, want := export(t, c, format, roots...), bytesOf(format, []int{0, 1, 2, 3, 4, 5}, fs...); got != want {
				t.Errorf("%d functions: %q, want %q", many, got, want)
			}
			if got, want := export(t, c, format, slices.Repeat(roots[:1], many)...), bytesOf(format, []int{0, 1, 2, 3, 4, 5}, slices.Repeat(fs[:1], many)...); got != want {
				t.Errorf("%d times one function: %q, want %q", many, got, want)
			}
		}
	}
}

// TestP9Chance: functions of all kinds in all kinds of orders.
func TestP9Chance(t *testing.T) {
	s := steps(99)
	for range 200 {
		c, _ := start(t, 300, 6)
		fs := s.chances(1+s.below(4), s.below(7))
		roots := imported(t, c, 1, bytesOf(1, s.shuffled(backwards), fs...))
		order := s.shuffled(backwards)
		for to, variable := range order {
			move(t, c, names[variable], to)
		}
		for format := range 2 {
			if got, want := export(t, c, format, roots...), bytesOf(format, order, fs...); got != want {
				t.Fatalf("order %v: %q, want %q", order, got, want)
			}
		}
	}
}

// TestP9Ended: what was started for a call has ended soon.
func TestP9Ended(t *testing.T) {
	c, _ := start(t, 300, 6)
	bytes := bytesOf(1, backwards, greatest()...)
	before := runtime.NumGoroutine()
	for range 100 {
		export(t, c, 0, imported(t, c, 1, bytes)...)
		c.Import(0, bytes)
	}
	for range 100 {
		if runtime.NumGoroutine() <= before {
			return
		}
		time.Sleep(time.Millisecond)
	}
	t.Errorf("%d goroutines, %d before", runtime.NumGoroutine(), before)
}

// TestP10Examples: what is read is what would have been made here.
func TestP10Examples(t *testing.T) {
	c, v := start(t, 300, 3)
	move(t, c, "b", 0)
	no, yes := c.Const(false), c.Const(true)
	f := and(t, c, v[0], v[1])
	choice := ite(t, c, v[0], v[1], v[2])
	for k, s := range []struct {
		text string
		body string
		want []int
	}{
		{lines("vars 2", "a", "b", "nodes 2", "1 0 -0", "0 1 -0", "roots 2", "2", "-2"), "COPS\x02\x01a\x01b\x00\x02\x01\x00\x00\x00\x01\x00\x00\x02\x00\x01\x02\x00\x04\x00\x05", []int{f, not(t, c, f)}},
		{lines("vars 2", "b", "a", "nodes 2", "1 0 -0", "0 1 -0", "roots 1", "2"), "COPS\x02\x01b\x01a\x00\x02\x01\x00\x00\x00\x01\x00\x00\x02\x00\x01\x01\x00\x04", []int{f}},
		{lines("vars 0", "nodes 0", "roots 1", "-0"), "COPS\x00\x00\x00\x01\x00\x01", []int{no}},
		{lines("vars 0", "nodes 0", "roots 3", "0", "-0", "0"), "COPS\x00\x00\x00\x03\x00\x00\x00\x01\x00\x00", []int{yes, no, yes}},
		{lines("vars 1", "c", "nodes 1", "0 0 -0", "roots 2", "-1", "1"), "COPS\x01\x01c\x00\x01\x00\x00\x00\x00\x01\x02\x00\x03\x00\x02", []int{not(t, c, v[2]), v[2]}},
		{lines("vars 3", "a", "b", "c", "nodes 3", "1 0 -0", "2 0 -0", "0 1 2", "roots 3", "3", "0", "2"), "COPS\x03\x01a\x01b\x01c\x00\x03\x01\x00\x00\x00\x01\x02\x00\x00\x00\x01\x00\x00\x02\x00\x04\x03\x00\x06\x00\x00\x00\x04", []int{choice, yes, v[2]}},
	} {
		for format, bytes := range []string{s.text, sealed(s.body)} {
			if l, e := c.Import(format, bytes); !slices.Equal(l, s.want) || e != api.OK {
				t.Errorf("line %d, format %d: %v, %d, want %v", k, format, l, e, s.want)
			}
		}
	}
}

// TestP10WrongFormat: ErrArg ahead of everything else.
func TestP10WrongFormat(t *testing.T) {
	c, _ := start(t, 300, 2)
	for _, format := range []int{math.MinInt, -1, 2, 3, 256, math.MaxInt} {
		for _, bytes := range []string{"", lines("vars 0", "nodes 0", "roots 1", "0"), sealed("COPS\x00\x00\x00\x01\x00\x01")} {
			if l, e := c.Import(format, bytes); len(l) != 0 || e != api.ErrArg {
				t.Errorf("Import(%d, %.300q): %v, %d", format, bytes, l, e)
			}
		}
	}
}

func refusedForm(t *testing.T, c *copse.Copse, format int, bytes string) {
	t.Helper()
	if l, e := c.Import(format, bytes); len(l) != 0 || e != api.ErrForm {
		t.Errorf("Import(%d, %.300q): %v, %d", format, bytes, l, e)
	}
}

// TestP10WrongText: texts that are nearly right, of which each has one fault.
func TestP10WrongText(t *testing.T) {
	c, _ := start(t, 300, 6)
	good := lines("vars 2", "a", "b", "nodes 2", "1 0 -0", "0 1 -0", "roots 2", "2", "-0")
	imported(t, c, 0, good)
	for _, s := range [][2]string{
		{"copse", "Copse"}, {"copse", " copse"}, {"copse\n", ""}, {"copse\n", "copse\n\n"}, {"copse\n", "copse\r\n"}, {"copse\n", "copse "},
		{"vars 2", "vars 02"}, {"vars 2", "vars 1"}, {"vars 2", "vars 3"}, {"vars 2", "vars  2"}, {"vars 2", "vars +2"}, {"vars 2", "vars -2"}, {"vars 2", "vars"}, {"vars 2", "vars 2 "}, {"vars 2", "Vars 2"}, {"vars 2", "vars\t2"}, {"vars 2", "vars 2.0"}, {"vars 2", "vars 18446744073709551618"}, {"vars 2\na\nb", "vars 0"}, {"vars 2\n", "vars 2 x\n"},
		{"\na\n", "\nb\n"}, {"\na\n", "\nA\n"}, {"\na\n", "\n\n"}, {"\na\n", "\n a\n"}, {"\na\n", "\na \n"}, {"\na\n", "\n0\n"}, {"\na\n", "\nabcdefghi\n"}, {"\na\n", "\na\x00\n"}, {"\na\n", "\nä\n"}, {"\na\nb\n", "\na b\n"}, {"\na\n", "\n"},
		{"nodes 2", "nodes 02"}, {"nodes 2", "nodes 1"}, {"nodes 2", "nodes 3"}, {"nodes 2", "nodes 99999999999999999999"}, {"nodes 2", "nodes -1"}, {"nodes 2", "nodes "}, {"nodes 2", "roots 2"}, {"nodes 2", "nodes 65538"}, {"nodes 2", "nodes 2\n"},
		{"1 0 -0", "01 0 -0"}, {"1 0 -0", "1 00 -0"}, {"1 0 -0", "1 0 -00"}, {"1 0 -0", "1 0 0"}, {"1 0 -0", "1 -0 -0"}, {"1 0 -0", "1 -0 0"}, {"1 0 -0", "0 0 -0"}, {"1 0 -0", "2 0 -0"}, {"1 0 -0", "-1 0 -0"}, {"1 0 -0", "1 0 --0"}, {"1 0 -0", "1 0 - 0"}, {"1 0 -0", "1 0"}, {"1 0 -0", "1 0 -0 0"}, {"1 0 -0", "1 +0 -0"}, {"1 0 -0", "1 1 -0"}, {"1 0 -0", "1 2 -0"}, {"1 0 -0", "1\n0\n-0"}, {"1 0 -0", "257 0 -0"},
		{"0 1 -0", "0 2 -0"}, {"0 1 -0", "0 3 -0"}, {"0 1 -0", "0 -1 -0"}, {"0 1 -0", "0 1 1"}, {"0 1 -0", "0 1 -2"}, {"0 1 -0", "1 1 -0"}, {"0 1 -0", "0 1 -65536"}, {"0 1 -0", "0 1 -9223372036854775808"}, {"0 1 -0", "0 9223372036854775809 -0"},
		{"roots 2", "roots 02"}, {"roots 2", "roots 1"}, {"roots 2", "roots 3"}, {"roots 2\n2\n-0", "roots 0"}, {"roots 2", "roots"}, {"roots 2", "Roots 2"}, {"roots 2\n2\n", "roots 2\n1\n"}, {"roots 2\n2\n", "roots 2\n3\n"}, {"roots 2\n2\n", "roots 2\n02\n"}, {"roots 2\n2\n", "roots 2\n2"}, {"roots 2\n2\n", "roots 2\n-3\n"}, {"\n-0\n", "\n--0\n"}, {"\n-0\n", "\n-\n"}, {"\n-0\n", "\n-00\n"}, {"\n-0\n", "\n-0 \n"}, {"roots 2\n2\n-0", "roots -2\n2\n-0"},
		{"end", "End"}, {"end\n", "end"}, {"end\n", ""}, {"end\n", "end\n\n"}, {"end\n", "end\nend\n"}, {"end\n", "end\ncopse\n"}, {"end\n", "end\x00\n"}, {"end\n", "end \n"},
	} {
		bad := strings.Replace(good, s[0], s[1], 1)
		if bad == good {
			t.Fatalf("nothing is changed by %q", s)
		}
		refusedForm(t, c, 0, bad)
	}
}

// TestP10WrongGraph: nodes and vars that no functions have, in both formats.
func TestP10WrongGraph(t *testing.T) {
	c, _ := start(t, 300, 6)
	yes, no := reference{0, false}, reference{0, true}
	plain := func(number int) reference { return reference{number, false} }
	turned := func(number int) reference { return reference{number, true} }
	ab, abc := names[:2], names[:3]
	for _, s := range []struct {
		what string
		paper
	}{
		{"a node that nothing reaches", paper{ab, []nodeLine{{1, yes, no}, {0, yes, no}, {0, plain(1), no}}, []reference{plain(3)}}},
		{"the last node is reached by nothing", paper{ab, []nodeLine{{1, yes, no}, {0, plain(1), no}, {0, yes, no}}, []reference{plain(2)}}},
		{"a node, and constants alone", paper{names[:1], []nodeLine{{0, yes, no}}, []reference{yes}}},
		{"a node that stands twice", paper{ab, []nodeLine{{1, yes, no}, {1, yes, no}, {0, plain(1), turned(2)}}, []reference{plain(3)}}},
		{"a root that stands twice", paper{ab, []nodeLine{{1, yes, no}, {0, plain(1), no}, {0, plain(1), no}}, []reference{plain(2), plain(3)}}},
		{"numbers not as the roots come", paper{ab, []nodeLine{{0, yes, no}, {1, yes, no}}, []reference{plain(2), plain(1)}}},
		{"Else ahead of Then", paper{abc, []nodeLine{{2, yes, no}, {1, yes, no}, {0, plain(2), plain(1)}}, []reference{plain(3)}}},
		{"a node ahead of its Then", paper{ab, []nodeLine{{0, plain(2), no}, {1, yes, no}}, []reference{plain(1)}}},
		{"a node that is its own Else", paper{names[:1], []nodeLine{{0, yes, turned(1)}}, []reference{plain(1)}}},
		{"a turned Then", paper{names[:1], []nodeLine{{0, no, yes}}, []reference{plain(1)}}},
		{"a turned Then that is a node", paper{ab, []nodeLine{{1, yes, no}, {0, turned(1), yes}}, []reference{plain(2)}}},
		{"Then and Else alike", paper{names[:1], []nodeLine{{0, yes, yes}}, []reference{plain(1)}}},
		{"Then and Else alike that are a node", paper{ab, []nodeLine{{1, yes, no}, {0, plain(1), plain(1)}}, []reference{plain(2)}}},
		{"Then and Else alike and turned", paper{names[:1], []nodeLine{{0, no, no}}, []reference{plain(1)}}},
		{"levels that do not grow", paper{ab, []nodeLine{{0, yes, no}, {1, plain(1), no}}, []reference{plain(2)}}},
		{"one level twice", paper{names[:1], []nodeLine{{0, yes, no}, {0, plain(1), no}}, []reference{plain(2)}}},
		{"one level twice, by Else", paper{ab, []nodeLine{{1, yes, no}, {1, yes, plain(1)}, {0, yes, plain(2)}}, []reference{plain(3)}}},
		{"a level that there is not", paper{names[:1], []nodeLine{{1, yes, no}}, []reference{plain(1)}}},
		{"a level, and no vars", paper{nil, []nodeLine{{0, yes, no}}, []reference{plain(1)}}},
		{"a var on which nothing hangs, alone", paper{names[:1], nil, []reference{yes}}},
		{"a var on which nothing hangs, the first", paper{ab, []nodeLine{{1, yes, no}}, []reference{plain(1)}}},
		{"a var on which nothing hangs, the last", paper{ab, []nodeLine{{0, yes, no}}, []reference{plain(1)}}},
		{"a var on which only what is not reached hangs", paper{ab, []nodeLine{{0, yes, no}, {1, yes, no}}, []reference{plain(1)}}},
		{"a name that stands twice", paper{[]string{"a", "a"}, []nodeLine{{1, yes, no}, {0, plain(1), no}}, []reference{plain(2)}}},
		{"an empty name", paper{[]string{""}, []nodeLine{{0, yes, no}}, []reference{plain(1)}}},
		{"a name that is too long", paper{[]string{"abcdefghi"}, []nodeLine{{0, yes, no}}, []reference{plain(1)}}},
		{"a name with a great letter", paper{[]string{"aB"}, []nodeLine{{0, yes, no}}, []reference{plain(1)}}},
		{"a name that begins with a digit", paper{[]string{"1a"}, []nodeLine{{0, yes, no}}, []reference{plain(1)}}},
		{"a name with a blank", paper{[]string{"a b"}, []nodeLine{{0, yes, no}}, []reference{plain(1)}}},
		{"a name with a line's end", paper{[]string{"a\n"}, []nodeLine{{0, yes, no}}, []reference{plain(1)}}},
		{"no roots", paper{nil, nil, nil}},
		{"seventeen roots", paper{nil, nil, slices.Repeat([]reference{no}, 17)}},
		{"a root that there is not", paper{names[:1], []nodeLine{{0, yes, no}}, []reference{plain(1), plain(2)}}},
		{"seven vars", sevenVars()},
	} {
		if s.right() {
			t.Errorf("%s: it is right", s.what)
		}
		for format := range 2 {
			if l, e := c.Import(format, s.write(format)); len(l) != 0 || e != api.ErrForm {
				t.Errorf("%s, format %d: %v, %d", s.what, format, l, e)
			}
		}
	}
}

// sevenVars is as it should be, but for one var too many.
func sevenVars() paper {
	p := paper{vars: append(slices.Clone(names), "g"), roots: []reference{{7, false}}}
	for i := range 7 {
		p.nodes = append(p.nodes, nodeLine{6 - i, reference{i, false}, reference{0, true}})
	}
	return p
}

// TestP10WrongBinary: faults that only the binary form has.
func TestP10WrongBinary(t *testing.T) {
	c, _ := start(t, 300, 6)
	body := "COPS\x01\x01a\x00\x01\x00\x00\x00\x00\x01\x01\x00\x02"
	imported(t, c, 1, sealed(body))
	for _, s := range []string{"", "C", "COPS", body, body + "\x00\x00\x00\x00", sealed(body)[1:], sealed(body) + "\x00", sealed(sealed(body)), sealed(""), sealed("COPS"), sealed("COPS\xff"), sealed("cops" + body[4:]), sealed("COPT" + body[4:]), sealed(body + "\x00"), sealed(body[:len(body)-1]), sealed(body[4:]),
		sealed("COPS\x01\x00\x00\x01\x00\x00\x00\x00\x01\x01\x00\x02"),
		sealed("COPS\x01\x02a\x00\x01\x00\x00\x00\x00\x01\x01\x00\x02"),
		sealed("COPS\x01\xffa\x00\x01\x00\x00\x00\x00\x01\x01\x00\x02"),
		sealed("COPS\x01\x01a\x00\x02\x00\x00\x00\x00\x01\x01\x00\x02"),
		sealed("COPS\x01\x01a\x01\x01\x00\x00\x00\x00\x01\x01\x00\x02"),
		sealed("COPS\x01\x01a\xff\xff\x00\x00\x00\x00\x01\x01\x00\x02"),
		sealed("COPS\x01\x01a\x00\x01\xff\x00\x00\x00\x01\x01\x00\x02"),
		sealed("COPS\x01\x01a\x00\x01\x00\xff\xff\x00\x01\x01\x00\x02"),
		sealed("COPS\x01\x01a\x00\x01\x00\x00\x00\x00\x01\x01\x01\x02"),
		sealed("COPS\x01\x01a\x00\x01\x00\x00\x00\x00\x01\x02\x00\x02"),
		sealed("COPS\x01\x01a\x00\x01\x00\x00\x00\x00\x01\xff\x00\x02"),
	} {
		refusedForm(t, c, 1, s)
	}
	good := []byte(sealed(body))
	for i := range good {
		for bit := range 8 {
			bad := slices.Clone(good)
			bad[i] ^= 1 << bit
			refusedForm(t, c, 1, string(bad))
		}
	}
	for i := len(body); i < len(good); i++ { // the check's bytes in another order
		for j := len(body); j < i; j++ {
			bad := slices.Clone(good)
			bad[i], bad[j] = bad[j], bad[i]
			refusedForm(t, c, 1, string(bad))
		}
	}
}

// TestP10Cut: bytes that are cut short, at either end, or longer, or of the other format.
func TestP10Cut(t *testing.T) {
	c, _ := start(t, 300, 6)
	s := steps(10)
	for n := range 7 {
		fs := s.chances(3, n)
		for format := range 2 {
			good := bytesOf(format, backwards, fs...)
			imported(t, c, format, good)
			collect(t, c)
			refusedForm(t, c, 1-format, good)
			refusedForm(t, c, format, good+good)
			for i := range good {
				refusedForm(t, c, format, good[:i])
				refusedForm(t, c, format, good[i+1:])
			}
			for b := range 256 {
				refusedForm(t, c, format, good+string([]byte{byte(b)}))
				refusedForm(t, c, format, string([]byte{byte(b)})+good)
			}
			if format == api.Binary {
				body := good[:len(good)-4]
				for i := range body {
					refusedForm(t, c, format, sealed(body[:i]))
				}
			}
		}
	}
}

// holds makes Import read bytes, and holds its answer against what rules say.
func holds(t *testing.T, c *copse.Copse, format int, bytes string) bool {
	t.Helper()
	p, ok := plainlyIn(format, bytes)
	ok = ok && p.right()
	l, e := c.Import(format, bytes)
	known := !slices.ContainsFunc(p.vars, func(name string) bool { return !slices.Contains(names, name) })
	switch {
	case !ok && (e != api.ErrForm || len(l) != 0), ok && !known && (e != api.ErrName || len(l) != 0), ok && known && e != api.OK:
		t.Fatalf("Import(%d, %q): %v, %d; right: %v", format, bytes, l, e, ok)
	case ok && known:
		for i, f := range p.tables() {
			if i >= len(l) || read(t, c, l[i], 6) != f {
				t.Fatalf("Import(%d, %q): %v: root %d is another function", format, bytes, l, i)
			}
		}
		collect(t, c)
	}
	return ok
}

// harm changes something in bytes.
func (s *steps) harm(format int, bytes string) string {
	i, j := s.below(len(bytes)), s.below(len(bytes))
	const some = "0123456789- \n\x00\x01\x02\x03\x05\xffabcz"
	b := some[s.below(len(some))]
	l := strings.SplitAfter(bytes, "\n")
	m, n := s.below(len(l)), s.below(len(l))
	switch kind := s.below(8); {
	case kind == 0:
		return bytes[:i] + bytes[i+1:]
	case kind == 1:
		return bytes[:i] + string([]byte{b}) + bytes[i:]
	case kind == 2 && format == api.Text:
		l[m], l[n] = l[n], l[m]
		return strings.Join(l, "")
	case kind == 3 && format == api.Text:
		return strings.Join(slices.Insert(l, m, l[n]), "")
	case kind == 4:
		return bytes[:min(i, j)] + bytes[max(i, j):]
	case kind == 5:
		swapped := []byte(bytes)
		swapped[i], swapped[j] = swapped[j], swapped[i]
		return string(swapped)
	case kind == 6 && format == api.Binary:
		b = bytes[i] ^ 1<<s.below(8)
	}
	return bytes[:i] + string([]byte{b}) + bytes[i+1:]
}

// TestP10Harm: bytes that were harmed in all kinds of ways are taken just if they are right still.
func TestP10Harm(t *testing.T) {
	c, _ := start(t, 300, 6)
	collect(t, c)
	s := steps(1010)
	right := 0
	for range 40000 {
		format := s.below(2)
		p := paperOf(s.shuffled(backwards), s.chances(1+s.below(3), s.below(5))...)
		bytes := p.text()
		if format == api.Binary {
			bytes = p.body()
		}
		for range 1 + s.below(2) {
			bytes = s.harm(format, bytes+"\n")
			bytes = strings.TrimSuffix(bytes, "\n")
		}
		if format == api.Text {
			bytes += "\n"
		} else {
			bytes = sealed(bytes)
		}
		if holds(t, c, format, bytes) {
			right++
		}
	}
	if right < 400 {
		t.Errorf("only %d were right", right)
	}
}

// TestP10HarmGraph: as above, but only numbers and signs are harmed, so that most have the right shape.
func TestP10HarmGraph(t *testing.T) {
	c, _ := start(t, 300, 6)
	collect(t, c)
	s := steps(2020)
	right := 0
	for range 40000 {
		p := paperOf(s.shuffled(backwards), s.chances(1+s.below(3), 1+s.below(4))...)
		for range 1 + s.below(2) {
			s.harmPaper(&p)
		}
		format := s.below(2)
		if holds(t, c, format, p.write(format)) {
			right++
		}
	}
	if right < 400 {
		t.Errorf("only %d were right", right)
	}
}

func (s *steps) harmPaper(p *paper) {
	any := func() reference { return reference{s.below(len(p.nodes) + 1), s.below(2) == 1} }
	kind := s.below(7)
	if len(p.nodes) == 0 {
		kind = 0
	}
	i, j := s.below(len(p.nodes)+1)-1, s.below(len(p.nodes)+1)-1
	i, j = max(i, 0), max(j, 0)
	switch kind {
	case 0:
		p.roots[s.below(len(p.roots))] = any()
	case 1:
		p.nodes[i].then = any()
	case 2:
		p.nodes[i].otherwise = any()
	case 3:
		p.nodes[i].level = s.below(len(p.vars) + 1)
	case 4:
		p.nodes[i], p.nodes[j] = p.nodes[j], p.nodes[i]
	case 5:
		p.nodes = slices.Insert(p.nodes, i, p.nodes[j])
	case 6:
		p.nodes = slices.Delete(p.nodes, i, i+1)
	}
}

// TestP10All: of all that could be said with two vars, two nodes and a root just that is taken that functions are.
func TestP10All(t *testing.T) {
	c, _ := start(t, 300, 2)
	collect(t, c)
	refs := []reference{{0, false}, {0, true}, {1, false}, {1, true}, {2, false}, {2, true}}
	var all []nodeLine
	for level := range 2 {
		for _, then := range refs {
			for _, otherwise := range refs {
				all = append(all, nodeLine{level, then, otherwise})
			}
		}
	}
	lists := [][]nodeLine{nil}
	for _, n := range all {
		lists = append(lists, []nodeLine{n})
		for _, m := range all {
			lists = append(lists, []nodeLine{n, m})
		}
	}
	for vars, want := range []int{2, 2, 10} { // how many functions hang on all of so many variables
		taken := map[int]string{}
		for _, nodes := range lists {
			for _, root := range refs {
				bytes := paper{names[:vars], nodes, []reference{root}}.text()
				l, e := c.Import(0, bytes)
				if e == api.ErrForm {
					continue
				}
				if e != api.OK || taken[l[0]] != "" {
					t.Fatalf("%q: %v, %d, a function that came by %q", bytes, l, e, taken[l[0]])
				}
				taken[l[0]] = bytes
			}
		}
		if len(taken) != want {
			t.Errorf("%d vars: %d were taken, want %d", vars, len(taken), want)
		}
		collect(t, c)
	}
}

// TestP10Name: each var must have a variable, but a fault of form comes first.
func TestP10Name(t *testing.T) {
	c, v := start(t, 2, 2)
	good := paper{[]string{"a", "x", "b"}, []nodeLine{{2, reference{}, reference{0, true}}, {1, reference{1, false}, reference{0, true}}, {0, reference{2, false}, reference{0, true}}}, []reference{{3, false}}}
	if !good.right() {
		t.Fatal("not right")
	}
	for _, name := range []string{"x", "nodes", "vars", "end", "copse", "roots", "c", "aa", "abcdefgh", "z9999999"} {
		for place := range 3 {
			p := good
			p.vars = slices.Insert([]string{"b", "a"}, place, name)
			for format := range 2 {
				if l, e := c.Import(format, p.write(format)); len(l) != 0 || e != api.ErrName {
					t.Errorf("format %d, vars %v: %v, %d", format, p.vars, l, e)
				}
				refusedForm(t, c, format, p.write(format)+"x")
			}
		}
	}
	good.vars = []string{"x", "a", "x"}
	for format := range 2 {
		refusedForm(t, c, format, good.write(format))
	}
	if c.Live() != 2 || !slices.Equal(c.Order(), names[:2]) || read(t, c, v[1], 2) != variableTable(1) {
		t.Errorf("behind refusals: %d live nodes, %v", c.Live(), c.Order())
	}
}

// TestP10OddNames: names that are words of the text, or as long as may be.
func TestP10OddNames(t *testing.T) {
	odd := []string{"nodes", "vars", "end", "copse", "roots", "z9999999"}
	c, _ := copse.New(300)
	d, _ := copse.New(300)
	f, g := c.Const(false), d.Const(false)
	for i, name := range odd {
		v, _ := c.Var(name)
		f = ite(t, c, v, not(t, c, f), f)
		if i == 3 {
			f = ite(t, c, v, f, c.Const(true))
		}
		w, _ := d.Var(name)
		g = ite(t, d, w, not(t, d, g), g)
		if i == 3 {
			g = ite(t, d, w, g, d.Const(true))
		}
	}
	for format := range 2 {
		if l := imported(t, d, format, export(t, c, format, f)); !slices.Equal(l, []int{g}) {
			t.Errorf("format %d: %v, want %d", format, l, g)
		}
	}
}

// TestP10Room: a copse that has just room for what is read, and one that has room for one node less.
func TestP10Room(t *testing.T) {
	s := steps(100)
	seen := 0
	for range 150 {
		n := 2 + s.below(3)
		order := []int{0, 1, 2, 3}[:n]
		kept, fs := s.chance(n), s.chances(1+s.below(3), n)
		few, need := countNodes(order, kept), countNodes(order, append(slices.Clone(fs), kept)...)
		if need-1 < n || need-1 < few {
			continue
		}
		seen++
		format := s.below(2)
		bytes := bytesOf(format, s.shuffled(order), fs...)
		// holding is a copse in which the one function is live.
		holding := func(cap int) (*copse.Copse, int) {
			c, _ := start(t, cap, n)
			collect(t, c)
			return c, imported(t, c, 1, bytesOf(1, order, kept))[0]
		}
		c, _ := holding(need)
		if l, e := c.Import(format, bytes); e != api.OK || len(l) != len(fs) || c.Live() != need {
			t.Fatalf("room for %d nodes: %v, %d, %d live nodes", need, l, e, c.Live())
		}
		c, h := holding(need - 1)
		if l, e := c.Import(format, bytes); e != api.ErrFull || len(l) != 0 || c.Live() != few {
			t.Fatalf("room for %d nodes, %d needed: %v, %d, %d live nodes", need-1, need, l, e, c.Live())
		}
		if read(t, c, h, n) != kept {
			t.Fatalf("behind a refused Import a handle is another function")
		}
	}
	if seen < 100 {
		t.Errorf("only %d were looked at", seen)
	}
}

// TestP10RoomTogether: all functions count together, each node once, and what is live already needs no room.
func TestP10RoomTogether(t *testing.T) {
	c, v := start(t, 4, 3)
	a, b := variableTable(0), variableTable(1)
	order := []int{0, 1, 2}
	for format := range 2 {
		if l, e := c.Import(format, bytesOf(format, order, a&b, a|b)); len(l) != 0 || e != api.ErrFull || c.Live() != 3 {
			t.Errorf("two functions, room for either alone: %v, %d, %d live nodes", l, e, c.Live())
		}
		if l, e := c.Import(format, bytesOf(format, order, a, b, ^a)); !slices.Equal(l, []int{v[0], v[1], not(t, c, v[0])}) || e != api.OK {
			t.Errorf("what is live already: %v, %d", l, e)
		}
	}
	l := imported(t, c, 0, bytesOf(0, order, a&b, ^(a&b), a&b))
	if c.Live() != 4 || l[0] != l[2] || l[1] != not(t, c, l[0]) || l[0] != and(t, c, v[0], v[1]) {
		t.Errorf("one function and its opposite: %v, %d live nodes", l, c.Live())
	}
	if again := imported(t, c, 1, bytesOf(1, []int{1, 0, 2}, a&b)); again[0] != l[0] || c.Live() != 4 {
		t.Errorf("in a full copse: %v, %d live nodes", again, c.Live())
	}
	if l, e := c.Import(0, bytesOf(0, order, a|b)); len(l) != 0 || e != api.ErrFull {
		t.Errorf("in a full copse: %v, %d", l, e)
	}
}

// TestP10Greatest: as many nodes as sixteen functions can have.
func TestP10Greatest(t *testing.T) {
	fs := greatest()
	const most = 16 + 32 + 64 + 120 + 6 + 1
	if n := countNodes(backwards, fs...); n != most {
		t.Fatalf("%d nodes", n)
	}
	for _, cap := range []int{most - 1, most} {
		c, _ := start(t, cap, 6)
		collect(t, c)
		for to, variable := range backwards {
			move(t, c, names[variable], to)
		}
		for format := range 2 {
			bytes := bytesOf(format, backwards, fs...)
			l, e := c.Import(format, bytes)
			if cap < most {
				if len(l) != 0 || e != api.ErrFull || c.Live() != 0 {
					t.Errorf("format %d, cap %d: %v, %d, %d live nodes", format, cap, l, e, c.Live())
				}
				continue
			}
			if len(l) != 16 || e != api.OK || c.Live() != most {
				t.Fatalf("format %d, cap %d: %v, %d, %d live nodes", format, cap, l, e, c.Live())
			}
			for i, f := range fs {
				if read(t, c, l[i], 6) != f {
					t.Errorf("format %d: root %d is another function", format, i)
				}
			}
			if export(t, c, format, l...) != bytes {
				t.Errorf("format %d: it is written otherwise", format)
			}
		}
	}
}

// TestP10Huge: bytes that speak of more than there can be are refused, and soon.
func TestP10Huge(t *testing.T) {
	c, _ := start(t, 300, 6)
	chain := &strings.Builder{}
	for i := range 300000 {
		fmt.Fprintf(chain, "%d %d -%d\n", 5-i%6, i, i/2)
	}
	for _, s := range []string{
		"copse\nvars 6\na\nb\nc\nd\ne\nf\nnodes 300000\n" + chain.String() + "roots 1\n300000\nend\n",
		"copse\nvars 6\na\nb\nc\nd\ne\nf\nnodes 65535\n" + chain.String() + "roots 1\n300000\nend\n",
		"copse\nvars 6\na\nb\nc\nd\ne\nf\nnodes 1008\n" + chain.String() + "roots 1\n300000\nend\n",
		"copse\nvars 1000000\n" + strings.Repeat("a\n", 1000000),
		"copse\nvars 0\nnodes 0\nroots 1000000\n" + strings.Repeat("0\n", 1000000) + "end\n",
		strings.Repeat("\n", 5000000),
		strings.Repeat("copse vars 6 ", 500000),
		"copse\nvars " + strings.Repeat("9", 1000000),
		"copse\nvars 0\nnodes 0\nroots 1\n" + strings.Repeat("0", 1000000) + "\nend\n",
	} {
		refusedForm(t, c, 0, s)
		refusedForm(t, c, 1, s)
		refusedForm(t, c, 1, sealed("COPS"+s))
	}
	body := &strings.Builder{}
	body.WriteString("COPS\x06\x01a\x01b\x01c\x01d\x01e\x01f\xff\xff")
	for i := range 65535 {
		body.WriteString(string([]byte{byte(5 - i%6)}) + twoBytes(2*(i%32768)) + twoBytes(i%65536))
	}
	refusedForm(t, c, 1, sealed(body.String()+"\x01\x00\x02"))
}

// other is a copse with the same names as start gives, under other numbers and in another order, with one more variable where there is room.
func other(t *testing.T, s *steps, n int) (*copse.Copse, []int) {
	t.Helper()
	c, _ := start(t, 300, 0)
	places := s.shuffled([]int{0, 1, 2, 3, 4, 5}[:n])
	all := namesOf(places)
	if n < api.MaxVars {
		all = slices.Insert(all, s.below(n+1), "more")
	}
	for _, name := range all {
		if _, e := c.Var(name); e != api.OK {
			t.Fatalf("Var(%q): %d", name, e)
		}
	}
	for range 4 {
		move(t, c, all[s.below(len(all))], s.below(len(all)))
	}
	var numbers []int // of the names, in turn
	for _, name := range names[:n] {
		numbers = append(numbers, slices.Index(all, name))
	}
	return c, numbers
}

// tellsAs is what a handle of an other copse tells, as a function of the first n names.
func tellsAs(t *testing.T, c *copse.Copse, f int, numbers []int, more int) table {
	t.Helper()
	r := never
	for a := range 1 << api.MaxVars {
		there := more
		for i, number := range numbers {
			there |= a >> i & 1 << number
		}
		v, e := c.Eval(f, there)
		if e != api.OK {
			t.Fatalf("Eval(%d, %d): %d", f, there, e)
		}
		if v {
			r |= 1 << a
		}
	}
	return r
}

// TestP11There: what went from one copse to another tells the same, and handles are alike just where they were.
func TestP11There(t *testing.T) {
	s := steps(11)
	for round := range 300 {
		n := 1 + round%6
		c, _ := start(t, 300, n)
		fs := s.chances(1+s.below(8), n)
		for range s.below(8) {
			f := fs[s.below(len(fs))]
			fs = append(fs, f, ^f)
		}
		fs = fs[:min(len(fs), api.MaxRoots)]
		roots := imported(t, c, 0, bytesOf(0, s.shuffled([]int{0, 1, 2, 3, 4, 5}[:n]), fs...))
		move(t, c, names[s.below(n)], s.below(n))
		d, numbers := other(t, &s, n)
		format := s.below(2)
		bytes := export(t, c, format, roots...)
		l := imported(t, d, format, bytes)
		if len(l) != len(roots) {
			t.Fatalf("%d functions came of %d", len(l), len(roots))
		}
		for i := range l {
			for _, more := range moreBits(numbers) {
				if tellsAs(t, d, l[i], numbers, more) != fs[i] {
					t.Fatalf("function %d is another", i)
				}
			}
			for j := range l {
				if (l[i] == l[j]) != (roots[i] == roots[j]) {
					t.Fatalf("handles %d and %d: %d, %d, they were %d, %d", i, j, l[i], l[j], roots[i], roots[j])
				}
			}
		}
		back := imported(t, c, 1-format, export(t, d, 1-format, l...))
		if !slices.Equal(back, roots) || export(t, c, format, back...) != bytes {
			t.Fatalf("there and back: %v, were %v", back, roots)
		}
	}
}

// moreBits are the values of the variable that none of the names has.
func moreBits(numbers []int) []int {
	for number := range len(numbers) + 1 {
		if !slices.Contains(numbers, number) && number < api.MaxVars {
			return []int{0, 1 << number}
		}
	}
	return []int{0}
}

// TestP11Same: the same functions in the same order are written the same, whatever was done ahead.
func TestP11Same(t *testing.T) {
	s := steps(111)
	for round := range 60 {
		m := newModel(t, 300)
		for range 100 + 5*round {
			m.mixedStep(t, &s)
		}
		var roots []int
		for range 1 + s.below(api.MaxRoots) {
			roots = append(roots, m.any(&s))
		}
		first := [2]string{export(t, m.c, 0, roots...), export(t, m.c, 1, roots...)}
		same := func(c *copse.Copse, roots []int, what string) {
			t.Helper()
			if now := [2]string{export(t, c, 0, roots...), export(t, c, 1, roots...)}; now != first {
				t.Fatalf("%s: %q, was %q", what, now, first)
			}
		}
		same(m.c, roots, "again")
		order := m.c.Order()
		m.c.Sift()
		for to, name := range order {
			// On the way there may be no room, as the other handles are live too.
			if m.c.Move(name, to) != api.OK {
				collect(t, m.c, roots...)
				move(t, m.c, name, to)
			}
		}
		same(m.c, roots, "the order changed, and changed back")
		collect(t, m.c, roots...)
		same(m.c, roots, "behind Collect")
		d, _ := start(t, 300, 0)
		for _, name := range order {
			d.Var(name)
		}
		same(d, imported(t, d, 0, first[0]), "in another copse")
		d.Sift()
		collect(t, d)
		for to, name := range order {
			move(t, d, name, to)
		}
		same(d, imported(t, d, 1, first[1]), "in another copse, later")
	}
}

// TestP11Refused: an Import that is refused changes nothing.
func TestP11Refused(t *testing.T) {
	a, b, c3 := variableTable(0), variableTable(1), variableTable(2)
	order := []int{0, 1, 2}
	answers := func(refuse bool) ([]int, string) {
		c, v := start(t, 5, 3)
		f := and(t, c, v[0], v[1])
		try := func() {
			if !refuse {
				return
			}
			for format := range 2 {
				for k, s := range []struct {
					format int
					bytes  string
					want   api.Errno
				}{
					{format + 2, bytesOf(format, order, a), api.ErrArg},
					{format, bytesOf(format, order, a|b) + "\n", api.ErrForm},
					{format, bytesOf(format, []int{3, 0, 1}, a&b&variableTable(3)), api.ErrName},
					{format, bytesOf(format, order, a&b, a&b&c3, a|b|c3, a&^c3), api.ErrFull},
					{format, bytesOf(format, backwards[3:], a^b^c3), api.ErrFull},
				} {
					if l, e := c.Import(s.format, s.bytes); len(l) != 0 || e != s.want {
						t.Fatalf("line %d: %v, %d", k, l, e)
					}
					if c.Live() != 4 && c.Live() != 5 || !slices.Equal(c.Order(), names[:3]) {
						t.Fatalf("line %d: %d live nodes, %v", k, c.Live(), c.Order())
					}
				}
			}
		}
		try()
		told := []int{f, ite(t, c, v[1], c.Const(true), v[2])}
		try()
		bytes := export(t, c, 0, append(told, v...)...)
		collect(t, c, f, v[2])
		told = append(told, and(t, c, f, v[2]))
		collect(t, c, f, v[2])
		told = append(told, imported(t, c, 1, bytesOf(1, order, a&c3))...)
		return told, bytes
	}
	with, bytes := answers(true)
	without, want := answers(false)
	if !slices.Equal(with, without) || bytes != want {
		t.Errorf("%v, %q, want %v, %q", with, bytes, without, want)
	}
}
