package ferry

import (
	"slices"

	"ferry/api"
	"ferry/blocks"
	"ferry/cpu"
)

// The calls that make, end and change processes (P6).

func (k *Kernel) fork(p *process) cpu.Answer {
	if len(k.procs) >= api.MaxProcs || k.came >= api.MaxPids {
		return wrong(api.NoProc)
	}
	child := &process{
		parent: p.pid,
		cpu:    cpu.State{P: p.cpu.P, Image: slices.Clone(p.cpu.Image)},
		fds:    slices.Clone(p.fds),
	}
	if !k.admit(child) {
		return wrong(api.NoRoom)
	}
	for _, number := range child.fds {
		if number != noFile {
			k.open.Share(number)
		}
	}
	return result(child.pid)
}

func (k *Kernel) wait(p *process, at cpu.Word) cpu.Answer {
	status, ok := p.cpu.Words(at, 1)
	if !ok {
		return wrong(api.Fault)
	}
	if !k.isParent(p) {
		return wrong(api.NoChild)
	}
	child := k.endedChild(p)
	if child == nil {
		return cpu.Answer{Blocked: func() bool { return k.endedChild(p) == nil }}
	}
	status[0] = child.status
	child.parent = 0 // nobody waits for it any more
	k.bury()
	return result(child.pid)
}

func (k *Kernel) isParent(p *process) bool {
	return slices.ContainsFunc(k.procs, func(child *process) bool { return child.parent == p.pid })
}

// endedChild gives the Zombie with the least pid whose parent a process is, or nil.
func (k *Kernel) endedChild(p *process) *process {
	for _, child := range k.procs {
		if child.parent == p.pid && child.ended {
			return child
		}
	}
	return nil
}

func (k *Kernel) grow(p *process, n cpu.Word) cpu.Answer {
	if n < 1 || n > api.MaxImage {
		return wrong(api.BadArg)
	}
	if !k.become(p, imageOf(p.cpu.Image, int(n))) {
		return wrong(api.NoRoom)
	}
	return result(0)
}

func (k *Kernel) exec(p *process, name cpu.Word) cpu.Answer {
	if what := k.noFileOf(name); what != 0 {
		return wrong(what)
	}
	words := k.disk.Words(int(name))
	if len(words) == 0 {
		return wrong(api.BadArg)
	}
	if !k.become(p, imageOf(words, blocks.Of(len(words)))) {
		return wrong(api.NoRoom)
	}
	p.cpu.P = 0 // A and B are the result and what went wrong: 0 too
	return result(0)
}
