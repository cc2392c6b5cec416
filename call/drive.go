package call

import (
	"vista/api"
	"vista/prune"
	"vista/walk"
)

// drive takes the call that goes on from part to part, with what a reply has just told, till an ask is out or the answer is known.
func (c *Client) drive(told reply) (out []api.Msg, done bool, answer api.Answer) {
	var op api.Op
	var nodes []api.Node
walk:
	if len(nodes) < len(c.going.routes) {
		found := c.travel(c.going.routes[len(nodes)], told.entries)
		if found.Need {
			op = api.Op{Kind: api.OpLook, Dir: found.Key.Dir, Name: found.Key.Name}
			goto ask
		}
		if found.Err != api.OK {
			answer.Err = found.Err
			goto end
		}
		nodes = append(nodes, found.Node)
		goto walk
	}
	op, answer = c.going.does(nodes, told)
	if op == (api.Op{}) {
		goto end
	}
ask:
	return []api.Msg{c.ask(op)}, false, api.Answer{}
end:
	return nil, true, c.end(answer)
}

// travel walks a route, and uses in the cache what the walk went through.
func (c *Client) travel(r route, fresh []api.Entry) api.Out {
	found := walk.Steps(c.cache, fresh, r.steps, r.dir, r.follow, c.conf.Links)
	for _, key := range found.Used {
		c.cache.Use(key)
	}
	return found
}

// answered does what the reply to the ask that is out says.
func (c *Client) answered(act api.Act) (out []api.Msg, done bool, answer api.Answer) {
	told := reply{op: c.going.out}
	// With an error nothing is told, whatever stands in the message.
	if act.Err == api.OK {
		told.entries, told.whole = act.Entries, act.Whole
	}
	if told.op.Kind != api.OpSync {
		c.learn(told)
	}
	if told.op.Kind == api.OpLook || told.op.Kind == api.OpList {
		return c.drive(told)
	}
	return nil, true, c.end(api.Answer{Err: act.Err})
}

// learn lays into the cache what a reply has told.
func (c *Client) learn(told reply) {
	for _, e := range told.entries {
		c.cache.Put(e)
	}
	if told.lists(told.op.Dir) {
		c.cache.SetWhole(told.op.Dir)
	}
	prune.Trim(c.cache, c.conf.Dentries, c.conf.Negative)
}

// ask makes an op the one that is out.
func (c *Client) ask(op api.Op) api.Msg {
	c.seq++
	c.tide.Ask(c.seq)
	c.going.out = op
	return c.message(c.seq, op)
}

// message is an ask with the mark as it is now.
func (c *Client) message(seq int, op api.Op) api.Msg {
	return api.Msg{Kind: api.MsgAsk, Client: c.id, Life: c.life, Seq: seq, Mark: c.tide.Mark(), Op: op}
}

// end ends the call that goes on with an answer.
func (c *Client) end(answer api.Answer) api.Answer {
	c.going = nil
	return c.dated(answer)
}

// dated is an answer that is given now.
func (c *Client) dated(answer api.Answer) api.Answer {
	answer.Version = c.tide.Version()
	return answer
}
