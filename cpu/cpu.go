// Package cpu: what a process does between two calls, and the goroutine in which it goes on.
package cpu

import "ferry/api"

// Word is a word of the machine; its sums and differences go round by themselves.
type Word uint16

// State is all that an instruction may change.
type State struct {
	A, B, P Word
	Image   []Word
}

// Outcome is what came of an instruction.
type Outcome int

const (
	Done   Outcome = iota
	Called         // the process makes a call, which is not answered yet
	Bad            // the process did what it may not
)

// Step does the instruction at P; the word is the number of the call, if it makes one.
func (s *State) Step() (Outcome, Word) {
	both, ok := s.Words(s.P, 2)
	if !ok {
		return Bad, 0
	}
	op, n := both[0], both[1]
	s.P += 2
	switch op {
	case api.Set:
		s.A = n
	case api.Jump:
		s.P = n
	case api.Zero:
		if s.A == 0 {
			s.P = n
		}
	case api.Turn:
		s.A, s.B = s.B, s.A
	case api.Trap:
		return Called, n
	default:
		return s.touch(op, n), 0
	}
	return Done, 0
}

// stepBack undoes the step to a call, which is made anew when the process goes on.
func (s *State) stepBack() { s.P -= 2 }

// touch does an operation that speaks of one word of the image.
func (s *State) touch(op, n Word) Outcome {
	one, ok := s.Words(s.address(op, n), 1)
	if !ok {
		return Bad
	}
	switch op {
	case api.Get, api.Far:
		s.A = one[0]
	case api.Put, api.Lay:
		one[0] = s.A
	case api.Add:
		s.A += one[0]
	case api.Sub:
		s.A -= one[0]
	default:
		return Bad
	}
	return Done
}

// address tells which word an operation speaks of.
func (s *State) address(op, n Word) Word {
	switch op {
	case api.Far:
		return s.A
	case api.Lay:
		return s.B
	}
	return n
}

// Words gives n words of the image from a place on, to be read or written there; false: they do not all stand in it. No words always do.
func (s *State) Words(at Word, n int) ([]Word, bool) {
	if n == 0 {
		return nil, true
	}
	from := int(at)
	if from+n > len(s.Image) {
		return nil, false
	}
	return s.Image[from : from+n : from+n], true
}
