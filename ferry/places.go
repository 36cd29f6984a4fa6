package ferry

import (
	"ferry/api"
	"ferry/blocks"
	"ferry/cpu"
)

// corePlace and swapPlace are kinds of their own, so that one is never taken for the other.
type (
	corePlace int
	swapPlace int
)

// nowhere is the place in the core of a process that is not there.
const nowhere corePlace = -1

// lying gives the process of a pid, if there is one that lies somewhere: a Zombie has no image that could.
func (k *Kernel) lying(pid int) (*process, api.Errno) {
	p := k.find(pid)
	if p == nil {
		return nil, api.ErrPid
	}
	if p.ended {
		return nil, api.ErrState
	}
	return p, api.OK
}

// bringIn brings a process into the core, if it is not there; others go out for it, the least pid first (P9).
func (k *Kernel) bringIn(p *process) {
	if p.core != nowhere {
		return
	}
	at, ok := k.core.Take(p.blocks())
	for i := 0; !ok && i < len(k.procs); i++ {
		k.takeOut(k.procs[i])
		at, ok = k.core.Take(p.blocks())
	}
	if ok {
		p.core = at
	}
}

// takeOut takes a process out of the core, if it is there.
func (k *Kernel) takeOut(p *process) {
	if p.core == nowhere {
		return
	}
	k.core.Give(p.core, p.blocks())
	p.core = nowhere
}

// become gives a process that goes on another image (P9); false: there is no room on the swap for it while it has its own.
func (k *Kernel) become(p *process, image []cpu.Word) bool {
	at, ok := k.swap.Take(blocks.Of(len(image)))
	if !ok {
		return false
	}
	// It still goes on: whatever comes of it, it must be in the core again.
	defer k.bringIn(p)
	k.takeOut(p)
	k.swap.Give(p.swap, p.blocks())
	p.swap, p.cpu.Image = at, image
	return true
}

// toRuns gives the runs of a map in new memory, as whoever asks from outside knows no kinds of places.
func toRuns[P blocks.Number](runs []blocks.Run[P]) []api.Run {
	var told []api.Run
	for _, r := range runs {
		told = append(told, api.Run{From: int(r.From), Blocks: r.Blocks})
	}
	return told
}
