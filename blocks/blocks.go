// Package blocks: maps of free blocks.
package blocks

import (
	"slices"

	"ferry/api"
)

// Of tells how many blocks hold so many words.
func Of(words int) int { return (words + api.Block - 1) / api.Block }

// Number is any kind of whole number; a place of one kind can't be taken for one of another.
type Number interface {
	~int | ~int8 | ~int16 | ~int32 | ~int64 |
		~uint | ~uint8 | ~uint16 | ~uint32 | ~uint64
}

// Run is free blocks side by side.
type Run[P Number] struct {
	From   P
	Blocks int
}

// end is an int, as the place behind the last block may be more than P holds.
func (r Run[P]) end() int { return int(r.From) + r.Blocks }

// Map is the free blocks among places of the kind P: runs in order, no two of which touch.
type Map[P Number] struct {
	runs []Run[P]
}

// New gives a map of n blocks, all of them free; the last must be a place of the kind P.
func New[P Number](n int) Map[P] {
	if n < 1 {
		return Map[P]{}
	}
	return Map[P]{runs: []Run[P]{{Blocks: n}}}
}

// Take takes the first n blocks of the first run that has so many, and tells the first; false: there is no such run.
func (m *Map[P]) Take(n int) (P, bool) {
	i := slices.IndexFunc(m.runs, func(r Run[P]) bool { return r.Blocks >= n })
	if n < 1 || i < 0 {
		return 0, false
	}
	from := m.runs[i].From
	if m.runs[i].Blocks == n {
		m.runs = slices.Delete(m.runs, i, i+1)
		return from, true
	}
	m.runs[i].From += P(n)
	m.runs[i].Blocks -= n
	return from, true
}

// Give gives back n blocks that were taken.
func (m *Map[P]) Give(from P, n int) {
	if n < 1 {
		return
	}
	i := slices.IndexFunc(m.runs, func(r Run[P]) bool { return r.From > from })
	if i < 0 {
		i = len(m.runs)
	}
	m.runs = slices.Insert(m.runs, i, Run[P]{From: from, Blocks: n})
	m.join(i)
	m.join(i - 1)
}

// join makes one of the run i and the next, if they touch.
func (m *Map[P]) join(i int) {
	if i < 0 || i+1 >= len(m.runs) || m.runs[i].end() != int(m.runs[i+1].From) {
		return
	}
	m.runs[i].Blocks += m.runs[i+1].Blocks
	m.runs = slices.Delete(m.runs, i+1, i+2)
}

// Runs tells the runs in order.
func (m *Map[P]) Runs() []Run[P] { return slices.Clone(m.runs) }
