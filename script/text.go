package script

import (
	"strconv"
	"strings"

	"copse/graph"
)

type textWriter struct{ text strings.Builder }

func (w *textWriter) line(words ...string) {
	w.text.WriteString(strings.Join(words, " ") + "\n")
}

func (w *textWriter) head(names []string, nodes int) {
	w.line("copse")
	w.line("vars", strconv.Itoa(len(names)))
	for _, name := range names {
		w.line(name)
	}
	w.line("nodes", strconv.Itoa(nodes))
}

func (w *textWriter) node(level int, then, otherwise graph.Ref) {
	w.line(strconv.Itoa(level), referenceText(then), referenceText(otherwise))
}

func (w *textWriter) tail(roots []graph.Ref) string {
	w.line("roots", strconv.Itoa(len(roots)))
	for _, root := range roots {
		w.line(referenceText(root))
	}
	w.line("end")
	return w.text.String()
}

func referenceText(f graph.Ref) string {
	digits := strconv.Itoa(f.Number())
	if f.Turned() {
		return "-" + digits
	}
	return digits
}

type textReader struct{ words []string }

func newTextReader(text string) *textReader {
	r := &textReader{strings.Fields(text)}
	r.word() // copse
	return r
}

func (r *textReader) word() string {
	if len(r.words) == 0 {
		return ""
	}
	word := r.words[0]
	r.words = r.words[1:]
	return word
}

func (r *textReader) count() int {
	r.word() // of what
	return number(r.word())
}

func (r *textReader) vars() int { return r.count() }

func (r *textReader) nodes() int { return r.count() }

func (r *textReader) roots() int { return r.count() }

func (r *textReader) name() string { return r.word() }

func (r *textReader) level() int { return number(r.word()) }

func (r *textReader) reference() graph.Ref {
	digits, turned := strings.CutPrefix(r.word(), "-")
	f := graph.Ref(2 * number(digits))
	if turned {
		return f.Not()
	}
	return f
}

// number is below 0 if the digits are none, or the number is greater than any that could stand in a script.
func number(digits string) int {
	n, err := strconv.ParseUint(digits, 10, 16)
	if err != nil {
		return -1
	}
	return int(n)
}
