package cpu

import "sync"

// Answer is what comes of a call: its result, and what went wrong (0: nothing). If Blocked is not nil, the call did not come to its end, and Blocked tells whether that would be so again.
type Answer struct {
	Result, Wrong Word
	Blocked       func() bool
}

// Run is a process that goes on in a goroutine. The State is the goroutine's own, but between a call and its answer, and after the end.
type Run struct {
	calls   chan Word
	answers chan Answer
	ends    chan Outcome
	quit    chan struct{}
	wait    sync.WaitGroup
}

// Start lets a process go on for at most so many instructions. Whoever starts it must Stop it.
func Start(s *State, steps int) *Run {
	r := &Run{
		calls:   make(chan Word),
		answers: make(chan Answer),
		ends:    make(chan Outcome),
		quit:    make(chan struct{}),
	}
	r.wait.Add(1)
	go func() {
		defer r.wait.Done()
		r.goOn(s, steps)
	}()
	return r
}

// Calls brings each call that the process makes; it waits then for Answer or Stop.
func (r *Run) Calls() <-chan Word { return r.calls }

// Ends brings one outcome, when the process does not go on any more: Done (its steps are spent) or Bad.
func (r *Run) Ends() <-chan Outcome { return r.ends }

// Answer answers the call that came last. A process that is Blocked does not go on: its registers are as they were ahead of the call, and there is no more to wait for.
func (r *Run) Answer(a Answer) { r.answers <- a }

// Stop tells the goroutine to end, wherever it is, and waits until it has.
func (r *Run) Stop() {
	close(r.quit)
	r.wait.Wait()
}

func (r *Run) goOn(s *State, steps int) {
	for range steps {
		outcome, call := s.Step()
		if outcome == Bad {
			r.end(Bad)
			return
		}
		if outcome == Called && !r.call(s, call) {
			return
		}
	}
	r.end(Done)
}

// call makes a call; false: it did not come to its end, as the process is Blocked or the goroutine was told to end.
func (r *Run) call(s *State, call Word) bool {
	select {
	case r.calls <- call:
	case <-r.quit:
		return false
	}
	select {
	case a := <-r.answers:
		if a.Blocked != nil {
			s.stepBack()
			return false
		}
		s.A, s.B = a.Result, a.Wrong
		return true
	case <-r.quit:
		return false
	}
}

func (r *Run) end(o Outcome) {
	select {
	case r.ends <- o:
	case <-r.quit:
	}
}
