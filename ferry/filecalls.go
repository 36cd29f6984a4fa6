package ferry

import (
	"slices"

	"ferry/api"
	"ferry/cpu"
	"ferry/files"
)

// The calls that speak of descriptors and files (P6).

func (k *Kernel) mkPipe(p *process, at cpu.Word) cpu.Answer {
	fds, ok := p.cpu.Words(at, 2)
	if !ok {
		return wrong(api.Fault)
	}
	if what := k.tooMany(p, 2); what != 0 {
		return wrong(what)
	}
	reading, writing := files.NewPipe()
	fds[0] = cpu.Word(p.hold(k.open.Add(reading)))
	fds[1] = cpu.Word(p.hold(k.open.Add(writing)))
	return result(0)
}

func (k *Kernel) read(p *process, fd, at, n cpu.Word) cpu.Answer {
	into, ok := p.cpu.Words(at, int(n))
	if !ok {
		return wrong(api.Fault)
	}
	if !p.has(fd) {
		return wrong(api.BadFd)
	}
	return k.open.Get(p.fds[fd]).Read(into)
}

func (k *Kernel) write(p *process, fd, at, n cpu.Word) cpu.Answer {
	words, ok := p.cpu.Words(at, int(n))
	if !ok {
		return wrong(api.Fault)
	}
	if !p.has(fd) {
		return wrong(api.BadFd)
	}
	return k.open.Get(p.fds[fd]).Write(words)
}

func (k *Kernel) seek(p *process, fd, place cpu.Word) cpu.Answer {
	if !p.has(fd) {
		return wrong(api.BadFd)
	}
	return k.open.Get(p.fds[fd]).Seek(int(place))
}

func (k *Kernel) close(p *process, fd cpu.Word) cpu.Answer {
	if !p.has(fd) {
		return wrong(api.BadFd)
	}
	k.open.Drop(p.fds[fd])
	p.fds[fd] = noFile
	return result(0)
}

func (k *Kernel) dup(p *process, fd cpu.Word) cpu.Answer {
	if !p.has(fd) {
		return wrong(api.BadFd)
	}
	if p.spare() == 0 {
		return wrong(api.ManyFds)
	}
	k.open.Share(p.fds[fd])
	return result(p.hold(p.fds[fd]))
}

func (k *Kernel) openFile(p *process, name, number cpu.Word) cpu.Answer {
	what := k.noFileOf(name)
	makes := what == api.NoName && number != 0
	if what != 0 && !makes {
		return wrong(what)
	}
	if what := k.tooMany(p, 1); what != 0 {
		return wrong(what)
	}
	if makes {
		k.disk.Make(int(name), nil)
	}
	return result(p.hold(k.open.Add(k.disk.Open(int(name)))))
}

func (k *Kernel) unlink(name cpu.Word) cpu.Answer {
	if what := k.noFileOf(name); what != 0 {
		return wrong(what)
	}
	k.disk.Unlink(int(name))
	return result(0)
}

// noFileOf tells why there is no file of a name (0: there is one).
func (k *Kernel) noFileOf(name cpu.Word) cpu.Word {
	if name >= api.Names {
		return api.BadArg
	}
	if !k.disk.Has(int(name)) {
		return api.NoName
	}
	return 0
}

// tooMany tells why a process can't have n open files more (0: it can).
func (k *Kernel) tooMany(p *process, n int) cpu.Word {
	if p.spare() < n {
		return api.ManyFds
	}
	if k.open.Room() < n {
		return api.ManyFiles
	}
	return 0
}

// has tells whether a descriptor is an open file.
func (p *process) has(fd cpu.Word) bool { return int(fd) < len(p.fds) && p.fds[fd] != noFile }

// spare tells how many descriptors are none.
func (p *process) spare() int {
	n := 0
	for _, number := range p.fds {
		if number == noFile {
			n++
		}
	}
	return n
}

// hold makes the first descriptor that is none an open file, and tells which it is; there must be one.
func (p *process) hold(number int) int {
	fd := slices.Index(p.fds, noFile)
	p.fds[fd] = number
	return fd
}
