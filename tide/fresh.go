package tide

import (
	"vista/api"
	"vista/mark"
)

// freshBreaks are the breaks that were applied since a Seq was asked; in the zero value there are none. They are of one epoch and come in their order, so that of those that name a key the last one tells enough. No break has the mark 0, which is later than none.
type freshBreaks struct {
	// last is the mark of the last one of all, flush that of the last flush.
	last, flush complex128
	// keys has for each key that was named behind that flush the mark of the last break that names it.
	keys map[api.Key]complex128
}

// add takes in the break or flush that was applied just now.
func (f *freshBreaks) add(m api.Msg) {
	f.last = m.Mark
	if m.Kind == api.MsgFlush {
		// Whatever a break ahead of it names, it names too.
		f.flush, f.keys = m.Mark, nil
		return
	}
	if f.keys == nil {
		f.keys = map[api.Key]complex128{}
	}
	for _, key := range m.Keys {
		f.keys[key] = m.Mark
	}
}

// later tells whether there is one later than a mark.
func (f *freshBreaks) later(m complex128) bool {
	return mark.Later(f.last, m)
}

// names tells whether one later than a mark names a key: itself, with its whole directory, or as a flush.
func (f *freshBreaks) names(key api.Key, m complex128) bool {
	return mark.Later(f.flush, m) || mark.Later(f.keys[key], m) || mark.Later(f.keys[api.Key{Dir: key.Dir}], m)
}
