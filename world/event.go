package world

import (
	"vista/api"
	"vista/boot"
	"vista/wire"
)

// Do does an event.
func (w *World) Do(ev api.Event) api.Step {
	var step api.Step
	do, ok := w.kinds()[ev.Kind]
	if ok && (w.has(ev.Client) || !atClient(ev.Kind)) {
		step = do(ev)
	}
	step.Life, step.Version = w.Life(step.Client), w.Seen(step.Client)
	step.Up, step.Server = w.Up(), w.Version()
	return step
}

// Run does events.
func (w *World) Run(evs ...api.Event) []api.Step {
	var steps []api.Step
	for _, ev := range evs {
		steps = append(steps, w.Do(ev))
	}
	return steps
}

// kinds are the ways to do an event, by its kind. Each tells what is known of the step then: which client has acted, what it has sent, and what a call of it has come to.
func (w *World) kinds() map[int]func(api.Event) api.Step {
	return map[int]func(api.Event) api.Step{
		api.EvCall:    w.start,
		api.EvDeliver: w.deliver,
		api.EvDrop:    w.drop,
		api.EvDouble:  w.double,
		api.EvTick:    w.tick,
		api.EvCrash:   w.crash,
		api.EvCancel:  w.cancel,
		api.EvFuse:    w.fuse,
		api.EvCut:     w.cut,
		api.EvBoot:    w.boot,
	}
}

// atClient tells whether events of a kind happen at a client.
func atClient(kind int) bool {
	switch kind {
	case api.EvCall, api.EvTick, api.EvCrash, api.EvCancel:
		return true
	}
	return false
}

func (w *World) start(ev api.Event) api.Step {
	out, done, answer := w.client(ev.Client).Start(ev.Call)
	return w.acted(ev.Client, out, done, answer)
}

func (w *World) tick(ev api.Event) api.Step {
	return w.acted(ev.Client, w.client(ev.Client).Tick(), false, api.Answer{})
}

func (w *World) crash(ev api.Event) api.Step {
	w.renew(ev.Client)
	return w.acted(ev.Client, nil, false, api.Answer{})
}

func (w *World) cancel(ev api.Event) api.Step {
	done, answer := w.client(ev.Client).Cancel()
	return w.acted(ev.Client, nil, done, answer)
}

// acted is the step of a client that has acted; what is out is posted.
func (w *World) acted(client int, out []api.Msg, done bool, answer api.Answer) api.Step {
	w.post(out)
	return api.Step{Client: client, Sent: len(out), Done: done, Answer: answer}
}

func (w *World) deliver(ev api.Event) api.Step {
	letter, e := w.bag.Take(w.place(ev.N))
	if e != api.OK {
		return api.Step{}
	}
	// What can't be decoded is the zero message, which neither a client nor a server does anything about.
	m, _ := wire.Decode(letter.Bytes)
	if w.has(letter.To) {
		out, done, answer := w.client(letter.To).Take(m)
		return w.acted(letter.To, out, done, answer)
	}
	if w.Up() {
		w.handle(m)
	}
	return api.Step{}
}

// handle brings a message to the server, which is up.
func (w *World) handle(m api.Msg) {
	version := w.Version()
	out, e := w.server.Handle(m)
	if e != api.OK {
		w.fall()
		return
	}
	// By nothing but a mutation that is kept, with OK and for the first time, does the version grow.
	if w.Version() > version {
		w.history = append(w.history, m.Op)
	}
	w.post(out)
}

// post sends messages. What has no bytes, or finds no room, is lost.
func (w *World) post(out []api.Msg) {
	for _, m := range out {
		bytes, e := wire.Encode(m)
		if e != api.OK {
			continue
		}
		letter := api.Letter{To: m.Client, Bytes: bytes}
		if m.Kind == api.MsgAsk {
			letter.To = 0
		}
		w.bag.Post(letter)
	}
}

func (w *World) drop(ev api.Event) api.Step {
	w.bag.Drop(w.place(ev.N))
	return api.Step{}
}

func (w *World) double(ev api.Event) api.Step {
	w.bag.Double(w.place(ev.N))
	return api.Step{}
}

// place is where in the bag the letter of a number lies; below 0, where none does, if the bag is empty.
func (w *World) place(n int) int {
	count := w.bag.Len()
	if count == 0 {
		return -1
	}
	return (n%count + count) % count
}

func (w *World) fuse(ev api.Event) api.Step {
	if w.Up() {
		// The disk refuses a number below 0.
		w.disk.Fuse(ev.N)
	}
	return api.Step{}
}

func (w *World) cut(api.Event) api.Step {
	if w.Up() {
		w.fall()
	}
	return api.Step{}
}

func (w *World) boot(ev api.Event) api.Step {
	if !w.Up() {
		w.disk.Power()
		w.disk.Fuse(ev.N)
		w.rise()
	}
	return api.Step{}
}

// rise starts a server on the disk.
func (w *World) rise() {
	server, e := boot.Start(w.disk, w.conf)
	if e != api.OK {
		w.fall()
		return
	}
	w.server = server
}

// fall is the end of a server, or of its start: its disk has no power any more.
func (w *World) fall() {
	w.disk.Cut()
	w.server = nil
}
