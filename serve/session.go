package serve

import (
	"vista/api"
	"vista/vow"
)

// session is what the server knows of one life of a client: its promises, and how far it has asked.
type session struct {
	*vow.Table
	client, life int
	// seq is the greatest one that was asked, full that of the last mutation that could not be kept. No Seq is 0.
	seq, full int
}

// takes tells whether an ask of this Seq counts: a lesser one than the last comes too late.
func (c *session) takes(seq int) bool {
	if seq < c.seq {
		return false
	}
	c.seq = seq
	return true
}

// messages are breaks as they are sent to the client.
func (c *session) messages(breaks []api.Break) []api.Msg {
	var out []api.Msg
	for _, b := range breaks {
		kind := api.MsgBreak
		if b.All {
			kind = api.MsgFlush
		}
		out = append(out, api.Msg{Kind: kind, Client: c.client, Life: c.life, Mark: b.Mark, Version: b.Version, Keys: b.Keys})
	}
	return out
}
