package call

import (
	"vista/api"
	"vista/dent"
	"vista/limit"
	"vista/name"
)

// errand is a call that goes on.
type errand struct {
	cache *dent.Cache
	// routes lead to the nodes that the call is about.
	routes []route
	// mutation is the op that a mutation asks for, but for the ids of its directories.
	mutation api.Op
	// does is what the call's kind does at those nodes, with what a reply has just told: it tells the op that is to be asked, or, with the zero Op, the answer.
	does func(nodes []api.Node, told reply) (api.Op, api.Answer)
	// out is the op of the ask that is out.
	out api.Op
}

// route is what a walk goes through.
type route struct {
	steps       []string
	dir, follow bool
}

// reply is what was just told to an ask of that op; the zero value tells nothing.
type reply struct {
	op      api.Op
	entries []api.Entry
	whole   bool
}

// lists tells whether a reply tells all names of a directory.
func (r reply) lists(dir int) bool {
	return r.whole && r.op.Kind == api.OpList && r.op.Dir == dir
}

// begin is a call that is not driven yet, or what is wrong with it.
func begin(call api.Call, cache *dent.Cache) (*errand, api.Errno) {
	e := &errand{cache: cache}
	switch call.Kind {
	case api.CallLookup:
		e.does = e.tellNode
		return e, e.leadTo(call.Path, true)
	case api.CallStat:
		e.does = e.tellNode
		return e, e.leadTo(call.Path, false)
	case api.CallReadlink:
		e.does = e.tellLink
		return e, e.leadTo(call.Path, false)
	case api.CallReaddir:
		e.does = e.tellNames
		return e, e.leadTo(call.Path, true)
	case api.CallSync:
		e.does = e.sync
		return e, api.OK
	}
	e.does = e.mutate
	return e, e.prepare(call)
}

// leadTo makes the call one about the node of a path.
func (e *errand) leadTo(path string, follow bool) api.Errno {
	steps, dir, err := name.Split(path)
	e.routes = append(e.routes, route{steps: steps, dir: dir, follow: follow})
	return err
}

// leadInto makes the call one about the directory that a path's last component is in, and tells that component.
func (e *errand) leadInto(path string) (last string, err api.Errno) {
	steps, last, err := name.Parent(path)
	e.routes = append(e.routes, route{steps: steps, dir: true, follow: true})
	return last, err
}

// prepare makes the call a mutation.
func (e *errand) prepare(call api.Call) (err api.Errno) {
	if e.mutation = mutation(call); e.mutation == (api.Op{}) {
		return api.ErrArg
	}
	if e.mutation.Name, err = e.leadInto(call.Path); err != api.OK {
		return err
	}
	switch e.mutation.Kind {
	case api.OpRename:
		e.mutation.New, err = e.leadInto(call.Other)
	case api.OpSymlink:
		_, _, _, err = name.Target(call.Other)
	}
	// Where a call has no use for a mode, the op has none that could be wrong.
	if !limit.Within(e.mutation.Mode, 0, api.MaxMode) {
		return api.ErrArg
	}
	return err
}

// mutation is the op that a call asks for, but for what its paths say; the zero Op, if the call is for no mutation.
func mutation(call api.Call) api.Op {
	switch call.Kind {
	case api.CallCreate:
		return api.Op{Kind: api.OpCreate, Mode: call.Mode}
	case api.CallMkdir:
		return api.Op{Kind: api.OpMkdir, Mode: call.Mode}
	case api.CallSymlink:
		return api.Op{Kind: api.OpSymlink, Target: call.Other}
	case api.CallUnlink:
		return api.Op{Kind: api.OpUnlink}
	case api.CallRmdir:
		return api.Op{Kind: api.OpRmdir}
	case api.CallRename:
		return api.Op{Kind: api.OpRename}
	case api.CallSetattr:
		return api.Op{Kind: api.OpSetattr, Mode: call.Mode}
	}
	return api.Op{}
}

// tellNode answers the node.
func (e *errand) tellNode(nodes []api.Node, _ reply) (api.Op, api.Answer) {
	return api.Op{}, api.Answer{Node: nodes[0]}
}

// tellLink answers the node, which has to be a link.
func (e *errand) tellLink(nodes []api.Node, _ reply) (api.Op, api.Answer) {
	if nodes[0].Kind != api.KindLink {
		return api.Op{}, api.Answer{Err: api.ErrNotLink}
	}
	return api.Op{}, api.Answer{Node: nodes[0]}
}

// tellNames answers the names of a directory, as soon as all of them are known.
func (e *errand) tellNames(nodes []api.Node, told reply) (api.Op, api.Answer) {
	dir := nodes[0].ID
	switch {
	case nodes[0].Kind != api.KindDir:
		return api.Op{}, api.Answer{Err: api.ErrNotDir}
	case e.cache.Whole(dir):
		return api.Op{}, api.Answer{Names: names(e.cache.Names(dir))}
	// All names were told, but the cache has no room for them.
	case told.lists(dir):
		return api.Op{}, api.Answer{Names: names(told.entries)}
	}
	return api.Op{Kind: api.OpList, Dir: dir}, api.Answer{}
}

// mutate asks for the mutation in the directories that were found.
func (e *errand) mutate(nodes []api.Node, _ reply) (api.Op, api.Answer) {
	op := e.mutation
	op.Dir = nodes[0].ID
	if op.Kind == api.OpRename {
		op.To = nodes[1].ID
	}
	return op, api.Answer{}
}

// sync asks for no more than a reply.
func (e *errand) sync([]api.Node, reply) (api.Op, api.Answer) {
	return api.Op{Kind: api.OpSync}, api.Answer{}
}

// names are those of entries, in their order.
func names(entries []api.Entry) []string {
	var all []string
	for _, e := range entries {
		all = append(all, e.Key.Name)
	}
	return all
}
