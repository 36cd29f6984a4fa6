package files

import (
	"ferry/api"
	"ferry/cpu"
)

// Open is an open file: a file with a place, or an end of a pipe.
type Open interface {
	// Read lays words into a list, as many as there are for it.
	Read(into []cpu.Word) cpu.Answer
	Write(words []cpu.Word) cpu.Answer
	Seek(place int) cpu.Answer
	close()
}

func count(n int) cpu.Answer { return cpu.Answer{Result: cpu.Word(n)} }

func wrong(what cpu.Word) cpu.Answer { return cpu.Answer{Wrong: what} }

// placed is a file with a place.
type placed struct {
	disk  *Disk
	file  *file
	place int
}

func (o *placed) Read(into []cpu.Word) cpu.Answer {
	words := o.file.words
	n := copy(into, words[min(o.place, len(words)):])
	o.place += n
	return count(n)
}

func (o *placed) Write(words []cpu.Word) cpu.Answer {
	end := o.place + len(words)
	if end > api.MaxFile {
		return wrong(api.TooBig)
	}
	// No words do not make the file longer, even if the place is behind its end.
	if len(words) == 0 {
		return count(0)
	}
	size := max(end, len(o.file.words))
	if !o.disk.mayGrow(o.file, size) {
		return wrong(api.NoSpace)
	}
	o.file.words = append(o.file.words, make([]cpu.Word, size-len(o.file.words))...)
	copy(o.file.words[o.place:], words)
	o.place = end
	return count(len(words))
}

func (o *placed) Seek(place int) cpu.Answer {
	if place > api.MaxFile {
		return wrong(api.BadArg)
	}
	o.place = place
	return count(0)
}

func (o *placed) close() {
	o.file.opens--
	o.disk.forget()
}
