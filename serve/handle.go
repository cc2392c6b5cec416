package serve

import (
	"vista/api"
	"vista/mark"
	"vista/tree"
	"vista/vow"
)

// Handle does an ask.
func (s *Server) Handle(m api.Msg) (out []api.Msg, e api.Errno) {
	if m.Kind != api.MsgAsk || !s.known(m.Client) || m.Life < 1 || m.Seq < 1 || !mark.Good(m.Mark) {
		return nil, api.OK
	}
	c := s.open(m)
	switch {
	case c.life > m.Life:
		return nil, api.OK
	case mark.Epoch(m.Mark) != s.epoch:
		return s.answer(c, m, api.ErrEpoch), api.OK
	case !c.Ack(m.Mark):
		return nil, api.OK
	// Who asks for breaks again waits for the reply to an ask that may be under way still: its Seq must not be taken.
	case m.Op.Kind != api.OpAgain && !c.takes(m.Seq):
		return nil, api.OK
	}
	do, ok := s.kinds()[m.Op.Kind]
	if !ok {
		return nil, api.OK
	}
	return do(c, m)
}

// kinds are the ways to do an ask, by its op's kind.
func (s *Server) kinds() map[int]func(*session, api.Msg) ([]api.Msg, api.Errno) {
	return map[int]func(*session, api.Msg) ([]api.Msg, api.Errno){
		api.OpLook:    s.look,
		api.OpList:    s.list,
		api.OpSync:    s.sync,
		api.OpAgain:   s.again,
		api.OpCreate:  s.mutate,
		api.OpMkdir:   s.mutate,
		api.OpSymlink: s.mutate,
		api.OpUnlink:  s.mutate,
		api.OpRmdir:   s.mutate,
		api.OpRename:  s.mutate,
		api.OpSetattr: s.mutate,
	}
}

// open is the session of m's client; a new one, if m is of a later life than any before.
func (s *Server) open(m api.Msg) *session {
	c := s.session(m.Client)
	if c == nil || c.life < m.Life {
		// The epoch and the limits were asked by New: there is no error.
		table, _ := vow.New(s.epoch, s.conf.Promises, s.conf.Queue)
		c = &session{Table: table, client: m.Client, life: m.Life}
		s.sessions[m.Client-1] = c
	}
	return c
}

func (s *Server) look(c *session, m api.Msg) ([]api.Msg, api.Errno) {
	entry, e := s.tree.Look(m.Op.Dir, m.Op.Name)
	if e != api.OK {
		return s.answer(c, m, e), api.OK
	}
	return s.read(c, m, entry.Key, entry), api.OK
}

func (s *Server) list(c *session, m api.Msg) ([]api.Msg, api.Errno) {
	entries, e := s.tree.List(m.Op.Dir)
	if e != api.OK {
		return s.answer(c, m, e), api.OK
	}
	return s.read(c, m, api.Key{Dir: m.Op.Dir}, entries...), api.OK
}

func (s *Server) sync(c *session, m api.Msg) ([]api.Msg, api.Errno) {
	return s.answer(c, m, api.OK), api.OK
}

func (s *Server) again(c *session, _ api.Msg) ([]api.Msg, api.Errno) {
	return c.messages(c.Queue()), api.OK
}

// mutate does a mutation once, however often it is asked for.
func (s *Server) mutate(c *session, m api.Msg) ([]api.Msg, api.Errno) {
	var (
		last    = s.Seen(m.Client)
		done    = api.Seen{Life: m.Life, Seq: m.Seq}
		tried   *tree.Tree
		entries []api.Entry
		keys    []api.Key
		e       api.Errno
	)
	switch {
	case last.Life > m.Life, last.Life == m.Life && last.Seq > m.Seq:
		return nil, api.OK
	case last.Life == m.Life && last.Seq == m.Seq:
		return s.answer(c, m, last.Err), api.OK
	case c.full == m.Seq:
		goto full
	}
	tried = s.Tree()
	entries, keys, done.Err = tried.Apply(m.Op)
	e = s.keep(m, tried, done)
	if e == api.ErrPower {
		return nil, e
	}
	if e != api.OK {
		goto full
	}
	s.seen[m.Client-1] = done
	if done.Err != api.OK {
		return s.answer(c, m, done.Err), api.OK
	}
	s.tree = tried
	return append(s.touch(keys), s.give(c, m, entries)...), api.OK
full:
	c.full = m.Seq
	return s.answer(c, m, api.ErrFull), api.OK
}

// touch breaks what clients were promised of keys.
func (s *Server) touch(keys []api.Key) []api.Msg {
	var out []api.Msg
	for _, c := range s.sessions {
		if c != nil {
			out = append(out, c.messages(c.Touch(keys, s.Version()))...)
		}
	}
	return out
}

// give promises what a mutation has made of its keys to the client that asked for it, and tells it. To make room for one promise another one may go, one of these too: what is not held in the end is not told.
func (s *Server) give(c *session, m api.Msg, entries []api.Entry) []api.Msg {
	var (
		out  []api.Msg
		held []api.Entry
	)
	for _, entry := range entries {
		out = append(out, s.grant(c, entry.Key)...)
	}
	for _, entry := range entries {
		if c.Holds(entry.Key) {
			held = append(held, entry)
		}
	}
	return append(out, s.reply(c, m, api.OK, held...))
}

// read promises a key, and tells what it is, if the promise holds.
func (s *Server) read(c *session, m api.Msg, key api.Key, entries ...api.Entry) []api.Msg {
	out := s.grant(c, key)
	if !c.Holds(key) {
		return append(out, s.reply(c, m, api.ErrBusy))
	}
	return append(out, s.reply(c, m, api.OK, entries...))
}

// grant promises a key, and tells which promise had to go for it.
func (s *Server) grant(c *session, key api.Key) []api.Msg {
	return c.messages(c.Grant(key, s.Version()))
}

// answer is a reply alone, without entries.
func (s *Server) answer(c *session, m api.Msg, e api.Errno) []api.Msg {
	return []api.Msg{s.reply(c, m, e)}
}

// reply is the answer to m, with the mark of the break that was made last. It keeps the entries.
func (s *Server) reply(c *session, m api.Msg, e api.Errno, entries ...api.Entry) api.Msg {
	return api.Msg{
		Kind:    api.MsgReply,
		Client:  m.Client,
		Life:    m.Life,
		Seq:     m.Seq,
		Mark:    c.Mark(),
		Version: s.Version(),
		Err:     e,
		Entries: entries,
	}
}
