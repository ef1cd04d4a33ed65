package show

import "strconv"

// writer puts a text together.
type writer struct {
	text []byte
	deep int // the blocks, protocols and dos around the next line
}

// add writes texts one behind the other.
func (w *writer) add(parts ...string) {
	for _, part := range parts {
		w.text = append(w.text, part...)
	}
}

func (w *writer) number(n int64) {
	w.text = strconv.AppendInt(w.text, n, 10)
}

func (w *writer) fraction(n, d int64) {
	w.number(n)
	w.add("/")
	w.number(d)
}

// indent writes what stands at the beginning of a line.
func (w *writer) indent() {
	for range w.deep {
		w.add("  ")
	}
}

// separated writes something so many times, with a text between.
func (w *writer) separated(between string, count int, each func(i int)) {
	for i := range count {
		if i > 0 {
			w.add(between)
		}
		each(i)
	}
}
