package tree

import (
	"math"
	"slices"

	"vista/api"
)

// mutations are the ways to do an op, by its kind. Each of them changes nothing, and answers what its keys become: so a refused op leaves the tree as it was, and what is told is what is done.
func (t *Tree) mutations() map[int]func(api.Op) ([]api.Entry, api.Errno) {
	return map[int]func(api.Op) ([]api.Entry, api.Errno){
		api.OpCreate:  t.create,
		api.OpMkdir:   t.mkdir,
		api.OpSymlink: t.symlink,
		api.OpUnlink:  t.unlink,
		api.OpRmdir:   t.rmdir,
		api.OpRename:  t.rename,
		api.OpSetattr: t.setattr,
	}
}

func (t *Tree) create(op api.Op) ([]api.Entry, api.Errno) {
	return t.add(op, api.Node{Kind: api.KindFile, Mode: op.Mode})
}

func (t *Tree) mkdir(op api.Op) ([]api.Entry, api.Errno) {
	return t.add(op, api.Node{Kind: api.KindDir, Mode: op.Mode})
}

func (t *Tree) symlink(op api.Op) ([]api.Entry, api.Errno) {
	return t.add(op, api.Node{Kind: api.KindLink, Target: op.Target})
}

// add gives a new node an id, and the op's name.
func (t *Tree) add(op api.Op, node api.Node) ([]api.Entry, api.Errno) {
	was, e := t.Look(op.Dir, op.Name)
	if e != api.OK {
		return nil, e
	}
	if e := right(node); e != api.OK {
		return nil, e
	}
	if !was.Neg {
		return nil, api.ErrExist
	}
	if t.Count() >= api.MaxNodes {
		return nil, api.ErrRoom
	}
	// A tree can be loaded with the last id that an int can tell as its next: none could be next behind it.
	if t.next == math.MaxInt {
		return nil, api.ErrFull
	}
	node.ID = t.next
	return []api.Entry{{Key: was.Key, Node: node}}, api.OK
}

func (t *Tree) unlink(op api.Op) ([]api.Entry, api.Errno) {
	was, e := t.there(op)
	if e != api.OK {
		return nil, e
	}
	if was.Node.Kind == api.KindDir {
		return nil, api.ErrIsDir
	}
	return []api.Entry{gone(was.Key)}, api.OK
}

func (t *Tree) rmdir(op api.Op) ([]api.Entry, api.Errno) {
	was, e := t.there(op)
	if e != api.OK {
		return nil, e
	}
	// The names of what is no directory can't be asked for: ErrNotDir.
	names, e := t.List(was.Node.ID)
	if e != api.OK {
		return nil, e
	}
	if len(names) > 0 {
		return nil, api.ErrNotEmpty
	}
	return []api.Entry{gone(was.Key)}, api.OK
}

func (t *Tree) rename(op api.Op) ([]api.Entry, api.Errno) {
	from, e := t.Look(op.Dir, op.Name)
	if e != api.OK {
		return nil, e
	}
	to, e := t.Look(op.To, op.New)
	if e != api.OK {
		return nil, e
	}
	if from.Neg {
		return nil, api.ErrNotFound
	}
	// Nothing lies in what is no directory.
	if t.inside(op.To, from.Node.ID) {
		return nil, api.ErrInside
	}
	// Each node has just one name: the very node is met under the very key alone.
	if from.Key == to.Key {
		return []api.Entry{from}, api.OK
	}
	if e := t.yields(to, from.Node.Kind == api.KindDir); e != api.OK {
		return nil, e
	}
	entries := []api.Entry{gone(from.Key), {Key: to.Key, Node: from.Node}}
	slices.SortFunc(entries, rising)
	return entries, api.OK
}

// yields is the error of an entry that is to make way for a directory, or for what is none.
func (t *Tree) yields(entry api.Entry, dir bool) api.Errno {
	if entry.Neg {
		return api.OK
	}
	names, e := t.List(entry.Node.ID)
	switch {
	case dir && e != api.OK:
		return api.ErrNotDir
	case !dir && e == api.OK:
		return api.ErrIsDir
	case len(names) > 0:
		return api.ErrNotEmpty
	}
	return api.OK
}

func (t *Tree) setattr(op api.Op) ([]api.Entry, api.Errno) {
	was, e := t.Look(op.Dir, op.Name)
	if e != api.OK {
		return nil, e
	}
	if !permitted(op.Mode) {
		return nil, api.ErrArg
	}
	if was.Neg {
		return nil, api.ErrNotFound
	}
	was.Node.Mode = op.Mode
	return []api.Entry{was}, api.OK
}

// there is the entry of an op's name that must be there.
func (t *Tree) there(op api.Op) (api.Entry, api.Errno) {
	was, e := t.Look(op.Dir, op.Name)
	if e == api.OK && was.Neg {
		e = api.ErrNotFound
	}
	return was, e
}
