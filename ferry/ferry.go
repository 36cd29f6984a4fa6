// Package ferry: a kernel whose processes go to and fro: see DOC.md.
package ferry

import (
	"slices"

	"ferry/api"
	"ferry/blocks"
	"ferry/cpu"
	"ferry/files"
)

// Kernel is a machine with its processes.
type Kernel struct {
	core  blocks.Map[corePlace]
	swap  blocks.Map[swapPlace]
	procs []*process // in the order of their pids
	came  int        // how many processes have ever come: the last one's pid
	disk  files.Disk
	open  files.Table
}

// New starts a machine (P3).
func New(c api.Config) (*Kernel, api.Errno) {
	if !mayBe(c) {
		return nil, api.ErrConfig
	}
	k := &Kernel{core: blocks.New[corePlace](c.Core), swap: blocks.New[swapPlace](c.Swap)}
	for name, f := range c.Files {
		k.disk.Make(name, toWords(f))
	}
	k.admit(&process{
		cpu: cpu.State{Image: imageOf(toWords(c.Program), blocks.Of(len(c.Program)))},
		fds: slices.Repeat([]int{noFile}, api.MaxFds),
	})
	return k, api.OK
}

// Pick lets a process go on (P4).
func (k *Kernel) Pick(pid, steps int) ([]api.Event, api.Errno) {
	p := k.find(pid)
	if p == nil {
		return nil, api.ErrPid
	}
	if steps < 1 || steps > api.MaxSteps {
		return nil, api.ErrSteps
	}
	if p.state() != api.Ready {
		return nil, api.ErrState
	}
	return k.goOn(p, steps), api.OK
}

// Out takes a process out of the core (P9).
func (k *Kernel) Out(pid int) api.Errno {
	p, e := k.lying(pid)
	if e != api.OK {
		return e
	}
	k.takeOut(p)
	return api.OK
}

// In brings a process into the core (P9).
func (k *Kernel) In(pid int) api.Errno {
	p, e := k.lying(pid)
	if e != api.OK {
		return e
	}
	k.bringIn(p)
	return api.OK
}

// Look tells how a process stands (P10).
func (k *Kernel) Look(pid int) (api.Proc, api.Errno) {
	p := k.find(pid)
	if p == nil {
		return api.Proc{}, api.ErrPid
	}
	return p.look(), api.OK
}

// Where tells where it lies (P10).
func (k *Kernel) Where(pid int) (api.Place, api.Errno) {
	p, e := k.lying(pid)
	if e != api.OK {
		return api.Place{}, e
	}
	return api.Place{Swap: int(p.swap), Core: int(p.core), Blocks: p.blocks()}, api.OK
}

// Pids tells which processes there are (P10).
func (k *Kernel) Pids() []int {
	var pids []int
	for _, p := range k.procs {
		pids = append(pids, p.pid)
	}
	return pids
}

// Free tells what is free of core and swap (P10).
func (k *Kernel) Free() (core, swap []api.Run) {
	return toRuns(k.core.Runs()), toRuns(k.swap.Runs())
}

// Files tells all files (P10).
func (k *Kernel) Files() []api.File { return k.disk.List() }
