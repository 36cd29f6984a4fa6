package files

import "ferry/api"

// Table is the open files, by their numbers.
type Table struct {
	entries [api.MaxOpen]entry
}

// entry is an open file, and how many descriptors are the same one. None: the number is free.
type entry struct {
	open        Open
	descriptors int
}

// Room tells how many more there may be.
func (t *Table) Room() int {
	n := 0
	for _, e := range t.entries {
		if e.descriptors == 0 {
			n++
		}
	}
	return n
}

// Add gives an open file, which one descriptor is, the least number that none has; there must be room.
func (t *Table) Add(o Open) int {
	n := 0
	for t.entries[n].descriptors > 0 {
		n++
	}
	t.entries[n] = entry{open: o, descriptors: 1}
	return n
}

// Get gives the open file that has a number.
func (t *Table) Get(number int) Open { return t.entries[number].open }

// Share says that one more descriptor is the open file that has a number.
func (t *Table) Share(number int) { t.entries[number].descriptors++ }

// Drop says that one descriptor less is the open file that has a number; when none is any more, it is closed.
func (t *Table) Drop(number int) {
	e := &t.entries[number]
	e.descriptors--
	if e.descriptors == 0 {
		e.open.close()
		*e = entry{}
	}
}
