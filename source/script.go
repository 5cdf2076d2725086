package source

import "vellum/fault"

// Giver gives as many bytes at a time as it likes: at most as many as it is
// asked for, which is at least one; none, if it likes. If it is at its end, it
// answers with fault.End, and if it fails, with fault.Failed, or with an error
// around one of them.
type Giver interface {
	Give(most int) (string, error)
}

// Scripted is a giver of the bytes of a text that answers as a script says.
type Scripted struct {
	rest   string
	script []int
	said   int // how many numbers of the script were heeded
}

// OfScript makes a giver of the bytes of a text. It reads the script, and does
// not change it.
func OfScript(s string, script []int) *Scripted {
	return &Scripted{rest: s, script: script}
}

// Give gives as many bytes as the next number of the script says; if nothing is
// left, it is at its end, whatever the script says.
func (s *Scripted) Give(most int) (string, error) {
	if s.rest == "" {
		return "", fault.End
	}
	count := s.next(most)
	if count < 0 {
		return "", fault.At("answer", s.said-1, fault.Failed)
	}
	count = min(count, most, len(s.rest))
	bytes := s.rest[:count]
	s.rest = s.rest[count:]
	return bytes, nil
}

// next is the next number of the script; behind its end, what is asked for.
func (s *Scripted) next(asked int) int {
	if s.said == len(s.script) {
		return asked
	}
	s.said++
	return s.script[s.said-1]
}
