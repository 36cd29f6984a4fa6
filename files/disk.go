// Package files: the files of the disk, pipes, and what is open of them.
package files

import (
	"slices"

	"ferry/api"
	"ferry/blocks"
	"ferry/cpu"
)

// noName is told of a file that has lost its name.
const noName = -1

// file is words on the disk. Its name is where the disk keeps it.
type file struct {
	words []cpu.Word
	opens int // how many open files are this file
}

// Disk is all files: each is there as long as it has a name or is open.
type Disk struct {
	named    [api.Names]*file // nil: no file has the name
	nameless []*file          // in the order in which they lost their names
}

// Make makes a file with a name that none has; the disk must have blocks for its words, which are its own from now on.
func (d *Disk) Make(name int, words []cpu.Word) { d.named[name] = &file{words: words} }

// Has tells whether a file has the name.
func (d *Disk) Has(name int) bool { return d.named[name] != nil }

// Words gives a copy of the words of the file that has the name.
func (d *Disk) Words(name int) []cpu.Word { return slices.Clone(d.named[name].words) }

// Open opens the file that has the name, with the place 0.
func (d *Disk) Open(name int) Open {
	f := d.named[name]
	f.opens++
	return &placed{disk: d, file: f}
}

// Unlink takes the name from the file that has it.
func (d *Disk) Unlink(name int) {
	d.nameless = append(d.nameless, d.named[name])
	d.named[name] = nil
	d.forget()
}

// forget drops the files that nobody can come to any more.
func (d *Disk) forget() {
	d.nameless = slices.DeleteFunc(d.nameless, func(f *file) bool { return f.opens == 0 })
}

// mayGrow tells whether the disk has blocks enough for a file of so many words in the place of f.
func (d *Disk) mayGrow(f *file, words int) bool {
	taken := blocks.Of(words) - blocks.Of(len(f.words))
	for _, f := range d.named {
		if f != nil {
			taken += blocks.Of(len(f.words))
		}
	}
	for _, f := range d.nameless {
		taken += blocks.Of(len(f.words))
	}
	return taken <= api.Disk
}

// List tells all files: those with a name by their names, then the others.
func (d *Disk) List() []api.File {
	var list []api.File
	for name, f := range d.named {
		if f != nil {
			list = append(list, f.tell(name))
		}
	}
	for _, f := range d.nameless {
		list = append(list, f.tell(noName))
	}
	return list
}

func (f *file) tell(name int) api.File {
	words := make([]int, len(f.words))
	for i, w := range f.words {
		words[i] = int(w)
	}
	return api.File{Name: name, Opens: f.opens, Words: words}
}
