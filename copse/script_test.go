package copse_test

import (
	"fmt"
	"hash/crc32"
	"regexp"
	"slices"
	"strconv"
	"strings"

	"copse/api"
)

// A reference as it is written: the number of a node, and the sign.
type reference struct {
	number int
	turned bool
}

type nodeLine struct {
	level           int
	then, otherwise reference
}

// A paper is what the bytes of functions say, apart from the format.
type paper struct {
	vars  []string
	nodes []nodeLine
	roots []reference
}

// paperOf is made from functions written out, as the document words it.
func paperOf(order []int, fs ...table) paper {
	vars := slices.DeleteFunc(slices.Clone(order), func(variable int) bool {
		return !slices.ContainsFunc(fs, func(f table) bool { return hangsOn(f, variable) })
	})
	p := paper{vars: namesOf(vars)}
	numbers := map[table]int{always: 0}
	var refer func(f table) reference
	refer = func(f table) reference {
		if f>>63 == 0 {
			return reference{refer(^f).number, true}
		}
		number, found := numbers[f]
		if !found {
			level := slices.IndexFunc(vars, func(variable int) bool { return hangsOn(f, variable) })
			then := refer(restrictTable(f, vars[level], true))
			otherwise := refer(restrictTable(f, vars[level], false))
			p.nodes = append(p.nodes, nodeLine{level, then, otherwise})
			number = len(p.nodes)
			numbers[f] = number
		}
		return reference{number, false}
	}
	for _, f := range fs {
		p.roots = append(p.roots, refer(f))
	}
	return p
}

func bytesOf(format int, order []int, fs ...table) string {
	return paperOf(order, fs...).write(format)
}

func (p paper) write(format int) string {
	if format == api.Binary {
		return sealed(p.body())
	}
	return p.text()
}

func (r reference) text() string {
	if r.turned {
		return "-" + strconv.Itoa(r.number)
	}
	return strconv.Itoa(r.number)
}

func (p paper) text() string {
	b := &strings.Builder{}
	fmt.Fprintf(b, "copse\nvars %d\n", len(p.vars))
	for _, name := range p.vars {
		fmt.Fprintln(b, name)
	}
	fmt.Fprintf(b, "nodes %d\n", len(p.nodes))
	for _, n := range p.nodes {
		fmt.Fprintln(b, n.level, n.then.text(), n.otherwise.text())
	}
	fmt.Fprintf(b, "roots %d\n", len(p.roots))
	for _, r := range p.roots {
		fmt.Fprintln(b, r.text())
	}
	return b.String() + "end\n"
}

func twoBytes(n int) string { return string([]byte{byte(n >> 8), byte(n)}) }

func (r reference) twoBytes() string {
	if r.turned {
		return twoBytes(2*r.number + 1)
	}
	return twoBytes(2 * r.number)
}

// body is the binary form without the check.
func (p paper) body() string {
	b := "COPS" + string([]byte{byte(len(p.vars))})
	for _, name := range p.vars {
		b += string([]byte{byte(len(name))}) + name
	}
	b += twoBytes(len(p.nodes))
	for _, n := range p.nodes {
		b += string([]byte{byte(n.level)}) + n.then.twoBytes() + n.otherwise.twoBytes()
	}
	b += string([]byte{byte(len(p.roots))})
	for _, r := range p.roots {
		b += r.twoBytes()
	}
	return b
}

// sealed is a body and its check.
func sealed(body string) string {
	c := crc32.ChecksumIEEE([]byte(body))
	return body + string([]byte{byte(c >> 24), byte(c >> 16), byte(c >> 8), byte(c)})
}

const numeral = `(?:0|[1-9][0-9]*)`

var shape = regexp.MustCompile(`^copse\nvars (` + numeral + `)\n((?:[^\n]*\n)*)nodes (` + numeral + `)\n((?:` + numeral + ` -?` + numeral + ` -?` + numeral + `\n)*)roots (` + numeral + `)\n((?:-?` + numeral + `\n)*)end\n$`)

// plainly reads a text by its shape; what it says may still be wrong.
func plainly(text string) (paper, bool) {
	m := shape.FindStringSubmatch(text)
	if m == nil {
		return paper{}, false
	}
	p := paper{vars: strings.Split(m[2], "\n")}
	p.vars = p.vars[:len(p.vars)-1]
	for _, line := range strings.Split(strings.TrimSuffix(m[4], "\n"), "\n") {
		if words := strings.Split(line, " "); len(words) == 3 {
			level, _ := strconv.Atoi(words[0])
			p.nodes = append(p.nodes, nodeLine{level, refer(words[1]), refer(words[2])})
		}
	}
	for _, line := range strings.Split(strings.TrimSuffix(m[6], "\n"), "\n") {
		if line != "" {
			p.roots = append(p.roots, refer(line))
		}
	}
	return p, m[1] == strconv.Itoa(len(p.vars)) && m[3] == strconv.Itoa(len(p.nodes)) && m[5] == strconv.Itoa(len(p.roots))
}

func refer(word string) reference {
	number, e := strconv.Atoi(strings.TrimPrefix(word, "-"))
	if e != nil {
		number = 1 << 40
	}
	return reference{number, strings.HasPrefix(word, "-")}
}

var nameShape = regexp.MustCompile(`^[a-z][a-z0-9]{0,7}$`)

// right tells whether a paper is that of any functions, by rules: the tests hold Import against it, which goes another way.
func (p paper) right() bool {
	if len(p.vars) > 6 || len(p.roots) < 1 || len(p.roots) > 16 {
		return false
	}
	for i, v := range p.vars {
		if !nameShape.MatchString(v) || slices.Contains(p.vars[:i], v) || !slices.ContainsFunc(p.nodes, func(n nodeLine) bool { return n.level == i }) {
			return false
		}
	}
	for i, n := range p.nodes {
		below := func(r reference) bool {
			return r.number <= i && (r.number == 0 || p.nodes[r.number-1].level > n.level)
		}
		if n.level >= len(p.vars) || n.then.turned || n.then == n.otherwise || !below(n.then) || !below(n.otherwise) || slices.Contains(p.nodes[:i], n) {
			return false
		}
	}
	for _, r := range p.roots {
		if r.number > len(p.nodes) {
			return false
		}
	}
	return p.inTurn()
}

// inTurn tells whether all nodes have the numbers that they should have.
func (p paper) inTurn() bool {
	met := make([]bool, len(p.nodes)+1)
	met[0] = true
	last, ok := 0, true
	var meet func(r reference)
	meet = func(r reference) {
		if !met[r.number] {
			met[r.number] = true
			meet(p.nodes[r.number-1].then)
			meet(p.nodes[r.number-1].otherwise)
			last++
			ok = ok && last == r.number
		}
	}
	for _, r := range p.roots {
		meet(r)
	}
	return ok && last == len(p.nodes)
}

// tables are the functions of a right paper, whose vars are among the names.
func (p paper) tables() []table {
	made := []table{always}
	function := func(r reference) table {
		if r.turned {
			return ^made[r.number]
		}
		return made[r.number]
	}
	for _, n := range p.nodes {
		variable := variableTable(slices.Index(names, p.vars[n.level]))
		made = append(made, iteTable(variable, function(n.then), function(n.otherwise)))
	}
	var fs []table
	for _, r := range p.roots {
		fs = append(fs, function(r))
	}
	return fs
}

// plainlyBinary is plainly for the other format.
func plainlyBinary(bytes string) (p paper, ok bool) {
	defer func() {
		if recover() != nil { // cut short
			p, ok = paper{}, false
		}
	}()
	at := 4
	number := func(width int) int {
		n := 0
		for range width {
			n = n<<8 + int(bytes[at])
			at++
		}
		return n
	}
	refer := func() reference {
		n := number(2)
		return reference{n / 2, n%2 == 1}
	}
	for range number(1) {
		long := number(1)
		p.vars = append(p.vars, bytes[at:at+long])
		at += long
	}
	for range number(2) {
		p.nodes = append(p.nodes, nodeLine{number(1), refer(), refer()})
	}
	for range number(1) {
		p.roots = append(p.roots, refer())
	}
	return p, p.write(api.Binary) == bytes
}

func plainlyIn(format int, bytes string) (paper, bool) {
	if format == api.Binary {
		return plainlyBinary(bytes)
	}
	return plainly(bytes)
}
