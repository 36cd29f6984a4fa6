package cpu

import (
	"runtime"
	"testing"
	"time"

	"ferry/api"
)

// settled waits until there are no more goroutines than there were: one that has ended may still be counted for a moment.
func settled(t *testing.T, before int) {
	t.Helper()
	for range 1000 {
		if runtime.NumGoroutine() <= before {
			return
		}
		time.Sleep(time.Millisecond)
	}
	t.Errorf("P1: %d goroutines, %d ahead of it", runtime.NumGoroutine(), before)
}

func TestRunSpendsItsSteps(t *testing.T) {
	for _, steps := range []int{1, 2, 1000} {
		s := with(0, 0, 0, []Word{api.Set, 1, api.Jump, 0})
		r := Start(&s, steps)
		select {
		case call := <-r.Calls():
			t.Errorf("a call: %d", call)
		case end := <-r.Ends():
			if end != Done {
				t.Errorf("the end: %d", end)
			}
		}
		r.Stop()
		if want := Word(steps % 2 * 2); s.P != want {
			t.Errorf("P4: %d steps: P is %d, want %d", steps, s.P, want)
		}
	}
}

func TestRunEndsBad(t *testing.T) {
	s := with(0, 0, 0, []Word{api.Set, 1, api.Stop})
	r := Start(&s, 9)
	defer r.Stop()
	select {
	case call := <-r.Calls():
		t.Errorf("a call: %d", call)
	case end := <-r.Ends():
		if end != Bad {
			t.Errorf("P5: the end: %d", end)
		}
	}
}

func TestRunTakesAnswers(t *testing.T) {
	s := with(0, 0, 0, []Word{api.Trap, 12, api.Put, 15, api.Trap, 99})
	r := Start(&s, 3)
	if call := <-r.Calls(); call != 12 {
		t.Errorf("the first call: %d", call)
	}
	r.Answer(Answer{Result: 5})
	if call := <-r.Calls(); call != 99 || s.A != 5 || s.B != 0 || s.P != 6 || s.Image[15] != 5 {
		t.Errorf("the second call: %d, %v", call, s)
	}
	r.Answer(Answer{Wrong: 7})
	if end := <-r.Ends(); end != Done {
		t.Errorf("the end: %d", end)
	}
	r.Stop()
	if s.A != 0 || s.B != 7 || s.P != 6 {
		t.Errorf("P6: after the calls: %v", s)
	}
}

// TestRunIsBlocked: the registers are as they were ahead of the call, and the process does not go on.
func TestRunIsBlocked(t *testing.T) {
	s := with(3, 4, 2, []Word{0, 0, api.Trap, 6, api.Set, 9})
	r := Start(&s, 3)
	if call := <-r.Calls(); call != 6 || s.P != 4 {
		t.Errorf("the call: %d, %v", call, s)
	}
	r.Answer(Answer{Blocked: func() bool { return true }})
	r.Stop()
	if s.A != 3 || s.B != 4 || s.P != 2 {
		t.Errorf("P4: Blocked: %v", s)
	}
	r = Start(&s, 1)
	if call := <-r.Calls(); call != 6 {
		t.Errorf("P4: it is not done anew: %d", call)
	}
	r.Answer(Answer{Result: 1})
	r.Stop()
	if s.A != 1 || s.B != 0 || s.P != 4 {
		t.Errorf("P4: done anew: %v", s)
	}
}

// TestRunStops: wherever the goroutine is when it is told to end, it ends.
func TestRunStops(t *testing.T) {
	before := runtime.NumGoroutine()
	for range 50 {
		calling := with(0, 0, 0, []Word{api.Trap, 12})
		Start(&calling, 9).Stop()
		waiting := with(0, 0, 0, []Word{api.Trap, 12})
		r := Start(&waiting, 9)
		<-r.Calls()
		r.Stop()
		ending := with(0, 0, 0, []Word{api.Stop})
		Start(&ending, 9).Stop()
		spent := with(0, 0, 0, []Word{api.Jump, 0})
		Start(&spent, 1000).Stop()
	}
	settled(t, before)
}

// TestStopWithoutAnAnswer: a process that waits for one does nothing more.
func TestStopWithoutAnAnswer(t *testing.T) {
	s := with(3, 4, 0, []Word{api.Trap, 12, api.Set, 9})
	r := Start(&s, 9)
	<-r.Calls()
	r.Stop()
	if s.A != 3 || s.B != 4 || s.P != 2 {
		t.Errorf("it went on: %v", s)
	}
	s = with(3, 4, 0, []Word{api.Trap, 12, api.Set, 9})
	Start(&s, 9).Stop()
	if s.A != 3 || s.B != 4 || s.P != 2 {
		t.Errorf("it went on, though nobody took its call: %v", s)
	}
}

// TestStopWaits: a goroutine that is in the midst of its steps has ended when Stop comes back.
func TestStopWaits(t *testing.T) {
	s := with(0, 0, 0, []Word{api.Add, 4, api.Jump, 0, 1})
	Start(&s, 120000).Stop()
	if s.A != 60000 || s.P != 0 {
		t.Errorf("P1: it was going on yet: %v", s)
	}
}
