package sheet

import (
	"strings"

	"vista/api"
	"vista/world"
)

// maxCalm is how many letters are delivered at most, where a line asks for calm.
const maxCalm = 1000

// player plays the lines of a sheet, one after the other.
type player struct {
	known map[string]command
	scene
}

// scene is a world, and what must be known of it beside. There is none as long as world is nil.
type scene struct {
	world *world.World
	// links is how many of them a walk may meet.
	links int
	// calls are what each client was called for last, when it was free: a step does not say which call has completed.
	calls map[int]api.Call
	// sights are the reads that have completed.
	sights []api.Sight
}

// newPlayer stands ahead of the first line.
func newPlayer() *player {
	p := &player{}
	p.known = p.commands()
	return p
}

// begin makes a new world.
func (p *player) begin(_ int, a args) string {
	n := a.numbers
	conf := api.Conf{Clients: n[0], Dentries: n[1], Negative: n[2], Links: n[3], Promises: n[4], Queue: n[5], Hold: n[6]}
	w, e := world.New(conf, n[7])
	if e != api.OK {
		return e.Error() + "\n"
	}
	p.scene = scene{world: w, links: conf.Links, calls: map[int]api.Call{}}
	return "ok\n"
}

// call calls a client.
func (p *player) call(kind int, a args) string {
	client := a.numbers[0]
	call := api.Call{Kind: kind, Path: a.paths[0], Other: a.paths[1], Mode: a.numbers[1]}
	// A client that is busy goes on with what it was called for.
	if !p.world.Busy(client) {
		p.calls[client] = call
	}
	return p.do(api.Event{Kind: api.EvCall, Client: client, Call: call})
}

// atClient does what else happens at a client.
func (p *player) atClient(kind int, a args) string {
	return p.do(api.Event{Kind: kind, Client: a.numbers[0]})
}

// elsewhere does what happens at no client, but to a letter or to the server.
func (p *player) elsewhere(kind int, a args) string {
	return p.do(api.Event{Kind: kind, N: a.numbers[0]})
}

// calm delivers the letters that are in flight, and those that come of them.
func (p *player) calm(_ int, a args) string {
	var said strings.Builder
	for range min(a.numbers[0], maxCalm) {
		if len(p.world.Letters()) == 0 {
			break
		}
		said.WriteString(p.do(api.Event{Kind: api.EvDeliver}))
	}
	return said.String()
}

// do does an event, and tells the step.
func (p *player) do(ev api.Event) string {
	step := p.world.Do(ev)
	call := p.calls[step.Client]
	p.see(step, call)
	return ofStep(step, call.Kind)
}

// see keeps the sight of a read that has completed.
func (p *player) see(step api.Step, call api.Call) {
	if !step.Done || !isRead(call.Kind) || !saysOfTree(step.Answer.Err) {
		return
	}
	p.sights = append(p.sights, api.Sight{Client: step.Client, Life: step.Life, Version: step.Answer.Version, Call: call, Answer: step.Answer})
}

// isRead tells whether a call of a kind reads.
func isRead(kind int) bool {
	switch kind {
	case api.CallLookup, api.CallStat, api.CallReadlink, api.CallReaddir:
		return true
	}
	return false
}

// saysOfTree tells whether an answer with that error says anything of a tree. What is wrong with a call is told without one.
func saysOfTree(e api.Errno) bool {
	switch e {
	case api.ErrBusy, api.ErrArg, api.ErrCancelled, api.ErrName, api.ErrNameTooLong, api.ErrPath, api.ErrPathTooLong:
		return false
	}
	return true
}
