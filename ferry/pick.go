package ferry

import (
	"slices"

	"ferry/api"
	"ferry/cpu"
)

// goOn lets a process go on in a goroutine and answers its calls; it gives the calls that came to their ends (P4).
func (k *Kernel) goOn(p *process, steps int) []api.Event {
	var told []api.Event
	k.bringIn(p)
	p.blocked = nil
	run := cpu.Start(&p.cpu, steps)
	defer run.Stop()
	for {
		select {
		case call := <-run.Calls():
			a := k.serve(p, call)
			if a.Blocked != nil {
				p.blocked = a.Blocked
				run.Answer(a)
				return told
			}
			told = append(told, event(p, call, a))
			if p.ended {
				return told
			}
			run.Answer(a)
		case outcome := <-run.Ends():
			if outcome == cpu.Bad {
				told = append(told, event(p, api.Exit, k.end(p, api.StatusBad)))
			}
			return told
		}
	}
}

func event(p *process, call cpu.Word, a cpu.Answer) api.Event {
	return api.Event{Pid: p.pid, Call: int(call), Result: int(a.Result), Wrong: int(a.Wrong)}
}

// serve does a call of a process, which waits meanwhile (P6).
func (k *Kernel) serve(p *process, call cpu.Word) cpu.Answer {
	args, ok := p.cpu.Words(p.cpu.A, argsOf(call))
	if !ok {
		return wrong(api.Fault)
	}
	args = slices.Clone(args) // the call may write over them, or give the image away
	switch call {
	case api.Exit:
		return k.end(p, args[0])
	case api.Fork:
		return k.fork(p)
	case api.Wait:
		return k.wait(p, args[0])
	case api.Grow:
		return k.grow(p, args[0])
	case api.MkPipe:
		return k.mkPipe(p, args[0])
	case api.Read:
		return k.read(p, args[0], args[1], args[2])
	case api.Write:
		return k.write(p, args[0], args[1], args[2])
	case api.Close:
		return k.close(p, args[0])
	case api.Dup:
		return k.dup(p, args[0])
	case api.Open:
		return k.openFile(p, args[0], args[1])
	case api.Exec:
		return k.exec(p, args[0])
	case api.Pid:
		return result(p.pid)
	case api.Unlink:
		return k.unlink(args[0])
	case api.Seek:
		return k.seek(p, args[0], args[1])
	}
	return wrong(api.BadCall)
}

// argsOf tells how many arguments a call has.
func argsOf(call cpu.Word) int {
	switch call {
	case api.Exit, api.Wait, api.Grow, api.MkPipe, api.Close, api.Dup, api.Exec, api.Unlink:
		return 1
	case api.Open, api.Seek:
		return 2
	case api.Read, api.Write:
		return 3
	}
	return 0
}

func result(n int) cpu.Answer { return cpu.Answer{Result: cpu.Word(n)} }

func wrong(what cpu.Word) cpu.Answer { return cpu.Answer{Wrong: what} }
