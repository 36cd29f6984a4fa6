package ferry

import (
	"ferry/api"
	"ferry/cpu"
)

// goOn lets a process go on in a goroutine and answers its calls; it gives the calls that came to their ends (P4).
func (k *Kernel) goOn(p *process, steps int) []api.Event {
	var told []api.Event
	k.bringIn(p)
	run := cpu.Start(&p.cpu, steps)
	defer run.Stop()
	for {
		select {
		case call := <-run.Calls():
			event := k.serve(p, call)
			told = append(told, event)
			if p.state != api.Ready {
				return told
			}
			run.Answer(cpu.Answer{Result: cpu.Word(event.Result), Wrong: cpu.Word(event.Wrong)})
		case outcome := <-run.Ends():
			if outcome == cpu.Bad {
				told = append(told, k.end(p, api.StatusBad))
			}
			return told
		}
	}
}

// serve does a call of a process, which waits meanwhile, and gives the event that tells of it (P6).
func (k *Kernel) serve(p *process, call cpu.Word) api.Event {
	args, ok := p.cpu.Words(p.cpu.A, argsOf(call))
	if !ok {
		return wrong(p, call, api.Fault)
	}
	switch call {
	case api.Exit:
		return k.end(p, args[0])
	case api.Pid:
		return result(p, call, p.pid)
	}
	return wrong(p, call, api.BadCall)
}

// argsOf tells how many arguments a call has.
func argsOf(call cpu.Word) int {
	switch call {
	case api.Exit:
		return 1
	}
	return 0
}

func result(p *process, call cpu.Word, n int) api.Event {
	return api.Event{Pid: p.pid, Call: int(call), Result: n}
}

func wrong(p *process, call cpu.Word, what int) api.Event {
	return api.Event{Pid: p.pid, Call: int(call), Wrong: what}
}
