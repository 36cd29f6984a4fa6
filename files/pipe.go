package files

import (
	"slices"

	"ferry/api"
	"ferry/cpu"
)

// pipe has one open file at most for each of its ends, however many descriptors they are.
type pipe struct {
	words         []cpu.Word
	read, written bool // which ends there are
}

// NewPipe opens both ends of a new pipe.
func NewPipe() (reading, writing Open) {
	p := &pipe{read: true, written: true}
	return &readingEnd{pipe: p}, &writingEnd{pipe: p}
}

// starved: there is nothing to read, but there may be yet.
func (p *pipe) starved() bool { return len(p.words) == 0 && p.written }

// clogged: there is no room to write, but there may be yet.
func (p *pipe) clogged() bool { return len(p.words) == api.Pipe && p.read }

// end refuses what not both ends can do.
type end struct{}

func (end) Read([]cpu.Word) cpu.Answer  { return wrong(api.BadFd) }
func (end) Write([]cpu.Word) cpu.Answer { return wrong(api.BadFd) }
func (end) Seek(int) cpu.Answer         { return wrong(api.BadFd) }

type readingEnd struct {
	end
	pipe *pipe
}

func (r *readingEnd) Read(into []cpu.Word) cpu.Answer {
	if len(into) > 0 && r.pipe.starved() {
		return cpu.Answer{Blocked: r.pipe.starved}
	}
	n := copy(into, r.pipe.words)
	r.pipe.words = slices.Delete(r.pipe.words, 0, n)
	return count(n)
}

func (r *readingEnd) close() { r.pipe.read = false }

type writingEnd struct {
	end
	pipe *pipe
}

func (w *writingEnd) Write(words []cpu.Word) cpu.Answer {
	if !w.pipe.read {
		return wrong(api.Broken)
	}
	if len(words) > 0 && w.pipe.clogged() {
		return cpu.Answer{Blocked: w.pipe.clogged}
	}
	n := min(len(words), api.Pipe-len(w.pipe.words))
	w.pipe.words = append(w.pipe.words, words[:n]...)
	return count(n)
}

func (w *writingEnd) close() { w.pipe.written = false }
