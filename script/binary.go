package script

import (
	"math"

	"copse/graph"
)

const mark = "COPS"

type binaryWriter struct{ bytes []byte }

// number puts a number down in so many bytes, the highest first.
func (w *binaryWriter) number(n, width int) {
	for i := range width {
		w.bytes = append(w.bytes, byte(n>>(8*(width-1-i))))
	}
}

func (w *binaryWriter) head(names []string, nodes int) {
	w.bytes = append(w.bytes, mark...)
	w.number(len(names), 1)
	for _, name := range names {
		w.number(len(name), 1)
		w.bytes = append(w.bytes, name...)
	}
	w.number(nodes, 2)
}

func (w *binaryWriter) node(level int, then, otherwise graph.Ref) {
	w.number(level, 1)
	w.number(int(then), 2)
	w.number(int(otherwise), 2)
}

func (w *binaryWriter) tail(roots []graph.Ref) string {
	w.number(len(roots), 1)
	for _, root := range roots {
		w.number(int(root), 2)
	}
	w.number(int(check(w.bytes)), 4)
	return string(w.bytes)
}

func check(bytes []byte) uint32 {
	sum := uint32(math.MaxUint32)
	for _, b := range bytes {
		sum ^= uint32(b)
		for range 8 {
			low := sum & 1
			sum >>= 1
			if low == 1 {
				sum ^= 3988292384
			}
		}
	}
	return ^sum
}

type binaryReader struct{ rest string }

func newBinaryReader(bytes string) *binaryReader {
	r := &binaryReader{bytes}
	r.take(len(mark))
	return r
}

// take gives the next bytes, fewer at the end.
func (r *binaryReader) take(count int) string {
	count = min(count, len(r.rest))
	taken := r.rest[:count]
	r.rest = r.rest[count:]
	return taken
}

func (r *binaryReader) number(width int) int {
	n := 0
	for _, b := range []byte(r.take(width)) {
		n = n<<8 | int(b)
	}
	return n
}

func (r *binaryReader) vars() int { return r.number(1) }

func (r *binaryReader) nodes() int { return r.number(2) }

func (r *binaryReader) roots() int { return r.number(1) }

func (r *binaryReader) name() string { return r.take(r.number(1)) }

func (r *binaryReader) level() int { return r.number(1) }

func (r *binaryReader) reference() graph.Ref { return graph.Ref(r.number(2)) }
