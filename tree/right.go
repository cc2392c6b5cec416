package tree

import (
	"vista/api"
	"vista/name"
)

// right is the error of what a node says of itself.
func right(node api.Node) api.Errno {
	if !permitted(node.Mode) {
		return api.ErrArg
	}
	switch node.Kind {
	case api.KindLink:
		_, _, _, e := name.Target(node.Target)
		return e
	case api.KindDir, api.KindFile:
		if node.Target == "" {
			return api.OK
		}
	}
	return api.ErrArg
}

// permitted tells whether a mode is one.
func permitted(mode int) bool {
	return mode >= 0 && mode <= api.MaxMode
}

// risen tells whether each key stands behind all ahead of it, so that none is there twice.
func (t *Tree) risen() bool {
	for i := 1; i < len(t.entries); i++ {
		if rising(t.entries[i-1], t.entries[i]) >= 0 {
			return false
		}
	}
	return true
}

// unlike tells whether all ids are ones that were given, each once.
func (t *Tree) unlike() bool {
	for _, entry := range t.entries {
		id := entry.Node.ID
		if id <= api.Root || id >= t.next {
			return false
		}
		// The first one with an id stands for all of them.
		if first, _ := t.Find(id); first.Key != entry.Key {
			return false
		}
	}
	return true
}

// whole tells whether each entry is right by itself, and hangs below the root by directories alone.
func (t *Tree) whole() bool {
	for _, entry := range t.entries {
		dir := entry.Key.Dir
		if entry.Neg || name.Check(entry.Key.Name) != api.OK || right(entry.Node) != api.OK {
			return false
		}
		if t.directory(dir) != api.OK || !t.inside(dir, api.Root) {
			return false
		}
	}
	return true
}
