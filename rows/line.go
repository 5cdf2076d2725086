package rows

import "vellum/fault"

// line is the row at hand, and the one above it. Both have as many bytes 0
// ahead of them as a pixel has bytes, so that there is always one to the left;
// above the first row stands one of bytes 0.
type line struct {
	step       int // how many bytes a pixel has
	now, above []byte
	at         int // where the next byte goes; 0: it is the filter
	filter     byte
}

func newLine(size, step int) line {
	return line{step: step, now: make([]byte, step+size), above: make([]byte, step+size)}
}

func (l *line) put(b byte) error {
	if l.at == 0 {
		if b > lastFilter {
			return fault.NewMalformed("a filter above 4")
		}
		l.filter, l.at = b, l.step
		return nil
	}
	left := l.at - l.step
	l.now[l.at] = b + added(l.filter, l.now[left], l.above[l.at], l.above[left])
	l.at++
	return nil
}

func (l *line) whole() bool { return l.at == len(l.now) }

// sofar has the bytes that came behind the filter, if it came.
func (l *line) sofar() []byte { return l.now[l.step:max(l.step, l.at)] }

func (l *line) next() {
	l.now, l.above = l.above, l.now
	l.at = 0
}
