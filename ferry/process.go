package ferry

import (
	"slices"

	"ferry/api"
	"ferry/blocks"
	"ferry/cpu"
)

// firstPid is the process that orphans go to.
const firstPid = 1

// noFile stands for a descriptor that is none.
const noFile = -1

// process is a process, or what is left of one that has ended: its pid, its parent and its status.
type process struct {
	pid, parent int
	ended       bool
	status      cpu.Word
	blocked     func() bool // of one that stopped at a call: whether that would be Blocked again
	cpu         cpu.State
	fds         []int // numbers of open files
	swap        swapPlace
	core        corePlace
}

// state is worked out each time, as what others do may change it (P8).
func (p *process) state() api.State {
	if p.ended {
		return api.Zombie
	}
	if p.blocked != nil && p.blocked() {
		return api.Blocked
	}
	return api.Ready
}

func (p *process) blocks() int { return blocks.Of(len(p.cpu.Image)) }

// imageOf gives new memory of n blocks with the words, as many as it holds, and 0 behind them.
func imageOf(words []cpu.Word, n int) []cpu.Word {
	image := make([]cpu.Word, n*api.Block)
	copy(image, words)
	return image
}

// look tells of a process all that it still has.
func (p *process) look() api.Proc {
	return api.Proc{
		Pid:    p.pid,
		Parent: p.parent,
		State:  p.state(),
		A:      int(p.cpu.A),
		B:      int(p.cpu.B),
		P:      int(p.cpu.P),
		Status: int(p.status),
		Image:  toInts(p.cpu.Image),
		Fds:    slices.Clone(p.fds),
	}
}

// find gives the process of a pid, or nil.
func (k *Kernel) find(pid int) *process {
	for _, p := range k.procs {
		if p.pid == pid {
			return p
		}
	}
	return nil
}

// admit gives the next pid, and room on the swap, to a process that has an image; false: there is no such room.
func (k *Kernel) admit(p *process) bool {
	at, ok := k.swap.Take(p.blocks())
	if !ok {
		return false
	}
	k.came++
	p.pid, p.swap, p.core = k.came, at, nowhere
	k.procs = append(k.procs, p)
	return true
}

// end makes a Zombie of a process (P7), and gives what is told of it.
func (k *Kernel) end(p *process, status cpu.Word) cpu.Answer {
	for _, number := range p.fds {
		if number != noFile {
			k.open.Drop(number)
		}
	}
	k.takeOut(p)
	k.swap.Give(p.swap, p.blocks())
	*p = process{pid: p.pid, parent: p.parent, ended: true, status: status, core: nowhere}
	k.orphan(p)
	k.bury()
	return cpu.Answer{Result: status}
}

// orphan gives another parent to those whose parent has ended.
func (k *Kernel) orphan(ended *process) {
	heir := 0
	if first := k.find(firstPid); first != nil && !first.ended {
		heir = firstPid
	}
	for _, p := range k.procs {
		if p.parent == ended.pid {
			p.parent = heir
		}
	}
}

// bury forgets the Zombies that nobody can wait for.
func (k *Kernel) bury() {
	k.procs = slices.DeleteFunc(k.procs, func(p *process) bool {
		return p.ended && p.parent == 0
	})
}
