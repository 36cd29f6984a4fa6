package ferry

import (
	"slices"

	"ferry/api"
	"ferry/cpu"
)

// firstPid is the process that orphans go to.
const firstPid = 1

// noFile stands for a descriptor that is none.
const noFile = -1

// process is a process, or what is left of one that has ended: its pid, its parent and its status.
type process struct {
	pid, parent int
	state       api.State
	status      cpu.Word
	cpu         cpu.State
	fds         []int // numbers of open files
	swap        swapPlace
	core        corePlace
}

// newProcess gives a process that has an image, but no room yet.
func newProcess(pid, parent int, image []cpu.Word) *process {
	return &process{
		pid:    pid,
		parent: parent,
		cpu:    cpu.State{Image: image},
		fds:    slices.Repeat([]int{noFile}, api.MaxFds),
		core:   nowhere,
	}
}

func (p *process) blocks() int { return blocksOf(len(p.cpu.Image)) }

// look tells of a process all that it still has.
func (p *process) look() api.Proc {
	return api.Proc{
		Pid:    p.pid,
		Parent: p.parent,
		State:  p.state,
		A:      int(p.cpu.A),
		B:      int(p.cpu.B),
		P:      int(p.cpu.P),
		Status: int(p.status),
		Image:  toInts(p.cpu.Image),
		Fds:    slices.Clone(p.fds),
	}
}

// find gives the process of a pid, or nil.
func (k *Kernel) find(pid int) *process {
	for _, p := range k.procs {
		if p.pid == pid {
			return p
		}
	}
	return nil
}

// end makes a Zombie of a process (P7), and gives the event that tells of it.
func (k *Kernel) end(p *process, status cpu.Word) api.Event {
	k.takeOut(p)
	k.swap.Give(p.swap, p.blocks())
	*p = process{pid: p.pid, parent: p.parent, state: api.Zombie, status: status, core: nowhere}
	k.orphan(p)
	k.bury()
	return api.Event{Pid: p.pid, Call: api.Exit, Result: int(status)}
}

// orphan gives another parent to those whose parent has ended.
func (k *Kernel) orphan(ended *process) {
	heir := 0
	if first := k.find(firstPid); first != nil && first.state != api.Zombie {
		heir = firstPid
	}
	for _, p := range k.procs {
		if p.parent == ended.pid {
			p.parent = heir
		}
	}
}

// bury forgets the Zombies that nobody can wait for.
func (k *Kernel) bury() {
	k.procs = slices.DeleteFunc(k.procs, func(p *process) bool {
		return p.state == api.Zombie && p.parent == 0
	})
}
