package walk

import (
	"vista/api"
	"vista/dent"
)

// source is what may know of keys.
type source interface {
	// tell tells the entry of a key, and whether the source knows of it.
	tell(key api.Key) (api.Entry, bool)
}

// freshEntries are found by their keys.
type freshEntries map[api.Key]api.Entry

// firsts are the entries of a list, of each key the first one.
func firsts(entries []api.Entry) freshEntries {
	f := freshEntries{}
	for _, e := range entries {
		if _, ok := f[e.Key]; !ok {
			f[e.Key] = e
		}
	}
	return f
}

func (f freshEntries) tell(key api.Key) (api.Entry, bool) {
	e, ok := f[key]
	return e, ok
}

// cached is a cache that is asked, and stays as it is.
type cached struct {
	cache *dent.Cache
}

func (c cached) tell(key api.Key) (api.Entry, bool) {
	if e, ok := c.cache.Get(key); ok {
		return e, true
	}
	if c.cache.Whole(key.Dir) {
		return api.Entry{Key: key, Neg: true}, true
	}
	return api.Entry{}, false
}
