package audit

import (
	"slices"

	"vista/api"
	"vista/name"
	"vista/tree"
)

// resolve is the node of a raw path, by what the tree says of each name. It goes its way apart from layer 14, so that a fault of the one is not hidden by the other.
func resolve(t *tree.Tree, path string, follow bool, links int) (api.Node, api.Errno) {
	steps, dir, e := name.Split(path)
	if e != api.OK {
		return api.Node{}, e
	}
	r := resolver{t: t, left: steps, dir: dir, follow: follow, links: min(max(links, 0), api.MaxLinks)}
	for len(r.left) > 0 {
		if e := r.next(); e != api.OK {
			return api.Node{}, e
		}
	}
	if r.dir && !r.inDir() {
		return api.Node{}, api.ErrNotDir
	}
	return r.here(), api.OK
}

// readlink is the link of a raw path.
func readlink(t *tree.Tree, path string, links int) (api.Node, api.Errno) {
	node, e := resolve(t, path, false, links)
	if e == api.OK && node.Kind != api.KindLink {
		return api.Node{}, api.ErrNotLink
	}
	return node, e
}

// readdir are the names in the directory of a raw path; that a node is none the tree says.
func readdir(t *tree.Tree, path string, links int) ([]string, api.Errno) {
	node, e := resolve(t, path, true, links)
	if e != api.OK {
		return nil, e
	}
	entries, e := t.List(node.ID)
	var names []string
	for _, entry := range entries {
		names = append(names, entry.Key.Name)
	}
	return names, e
}

// resolver is on its way through a tree.
type resolver struct {
	t *tree.Tree
	// way has the nodes below the root, one in the other, to where it stands.
	way []api.Node
	// left are the components that are still to be taken.
	left []string
	// dir says that a directory must be there in the end.
	dir, follow bool
	// links is how many more may be met.
	links int
}

// next takes a component.
func (r *resolver) next() api.Errno {
	if !r.inDir() {
		return api.ErrNotDir
	}
	step := r.left[0]
	r.left = r.left[1:]
	switch step {
	case ".":
		return api.OK
	case "..":
		r.way = r.way[:max(len(r.way)-1, 0)]
		return api.OK
	}
	return r.enter(step)
}

// enter goes to what a name is, or through it, if it is a link that does not end the way.
func (r *resolver) enter(step string) api.Errno {
	entry, e := r.t.Look(r.here().ID, step)
	if e != api.OK {
		return e
	}
	if entry.Neg {
		return api.ErrNotFound
	}
	if entry.Node.Kind == api.KindLink && (len(r.left) > 0 || r.dir || r.follow) {
		return r.meet(entry.Node.Target)
	}
	r.way = append(r.way, entry.Node)
	return api.OK
}

// meet puts a link's target ahead of what is left.
func (r *resolver) meet(target string) api.Errno {
	if r.links == 0 {
		return api.ErrLoop
	}
	r.links--
	steps, whole, dir, e := name.Target(target)
	if e != api.OK {
		return e
	}
	if whole {
		r.way = nil
	}
	if len(r.left) == 0 {
		r.dir = r.dir || dir
	}
	r.left = slices.Concat(steps, r.left)
	return api.OK
}

// here is the node where it stands.
func (r *resolver) here() api.Node {
	if len(r.way) == 0 {
		return api.Node{ID: api.Root, Kind: api.KindDir}
	}
	return r.way[len(r.way)-1]
}

// inDir tells whether that is a directory.
func (r *resolver) inDir() bool {
	return r.here().Kind == api.KindDir
}
