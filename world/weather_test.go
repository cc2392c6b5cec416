package world_test

import (
	"math"
	"math/rand"

	"vista/api"
	"vista/world"
)

// weather makes up the events of a script, one fit for what a world has come to after the other.
type weather struct {
	r    *rand.Rand
	conf api.Conf
	// blocks is how great the disk is.
	blocks int
	// Of a hundred events, as long as letters are in flight: how many deliver one, lose one, double one.
	arrive, lose, double int
	// far is how many letters may be ahead of the one that arrives.
	far int
	// trouble is how many of a hundred other events are none of a call.
	trouble int
}

// newWeather is what falls upon a script; no two of them alike.
func newWeather(seed int) *weather {
	r := rand.New(rand.NewSource(int64(seed)))
	x := &weather{r: r, blocks: 40 + r.Intn(80), arrive: 65, far: 1, trouble: 5}
	x.conf = api.Conf{
		Clients: 1 + r.Intn(api.MaxClients), Dentries: 1 + r.Intn(20), Negative: 1 + r.Intn(6), Links: r.Intn(4),
		Promises: 1 + r.Intn(12), Queue: 1 + r.Intn(6), Hold: r.Intn(5),
	}
	switch r.Intn(8) {
	case 0: // calm
	case 1: // letters pile up
		x.arrive, x.double, x.far = 20, 40, api.MaxBag
	case 2: // the disk is at its end
		x.blocks, x.arrive = 9+r.Intn(4), 80
	default:
		x.lose, x.double, x.far, x.trouble = r.Intn(12), r.Intn(8), 1+r.Intn(8), 3+r.Intn(15)
	}
	if r.Intn(3) == 0 {
		x.conf.Dentries, x.conf.Negative = api.MaxDentries, api.MaxNegative
	}
	return x
}

// event is the next one.
func (x *weather) event(w *world.World) api.Event {
	if !w.Up() && x.r.Intn(5) == 0 {
		return of(api.EvBoot, x.r.Intn(6)-1)
	}
	letters := len(w.Letters())
	chance := x.r.Intn(100)
	switch {
	case letters > 0 && chance < x.arrive:
		return deliver(x.which(letters))
	case letters > 0 && chance < x.arrive+x.lose:
		return of(api.EvDrop, x.which(letters))
	case letters > 0 && chance < x.arrive+x.lose+x.double:
		return of(api.EvDouble, x.which(letters))
	case x.r.Intn(100) < x.trouble:
		return x.mishap()
	}
	client := x.client(w)
	switch {
	case w.Busy(client) && letters > 0 && x.r.Intn(4) > 0:
		return deliver(x.which(letters))
	case w.Busy(client) && x.r.Intn(4) > 0:
		return at(client, api.EvTick)
	}
	return calls(client, x.call())
}

// which is the number of a letter, now and then another one that means the same.
func (x *weather) which(letters int) int {
	n := x.r.Intn(min(x.far, letters))
	switch x.r.Intn(12) {
	case 0:
		return n - letters
	case 1:
		return n + 7*letters
	case 2:
		return math.MinInt + x.r.Intn(letters)
	}
	return n
}

// client is one that is not busy, if one is found; now and then it is none.
func (x *weather) client(w *world.World) int {
	if x.r.Intn(60) == 0 {
		return []int{0, -1, math.MinInt, x.conf.Clients + 1, math.MaxInt}[x.r.Intn(5)]
	}
	client := 1 + x.r.Intn(x.conf.Clients)
	for range 2 {
		if w.Busy(client) {
			client = 1 + x.r.Intn(x.conf.Clients)
		}
	}
	return client
}

// mishap is an event that nobody has asked for.
func (x *weather) mishap() api.Event {
	client := x.r.Intn(x.conf.Clients + 2)
	switch x.r.Intn(10) {
	case 0:
		return at(client, api.EvCrash)
	case 1:
		return at(client, api.EvCancel)
	case 2, 3, 4:
		return of(api.EvFuse, x.r.Intn(9)-1)
	case 5:
		return of(api.EvCut, 0)
	case 6:
		return of(api.EvBoot, x.r.Intn(6)-1)
	case 7:
		return api.Event{Kind: []int{0, -1, 11, math.MinInt, math.MaxInt}[x.r.Intn(5)], Client: client, N: x.r.Intn(3), Call: x.call()}
	}
	return at(client, api.EvTick)
}

// call is a made-up one, mostly of a right form.
func (x *weather) call() api.Call {
	c := api.Call{Kind: 1 + x.r.Intn(api.CallSync), Path: x.path(), Other: x.path(), Mode: x.r.Intn(9)}
	switch x.r.Intn(30) {
	case 0:
		c.Kind = []int{0, -1, 13, math.MaxInt}[x.r.Intn(4)]
	case 1:
		c.Mode = []int{-1, 512, math.MinInt}[x.r.Intn(3)]
	case 2, 3, 4, 5, 6, 7, 8, 9, 10:
		c.Kind = api.CallLookup + x.r.Intn(4)
	case 11, 12, 13, 14, 15, 16:
		c.Kind = []int{api.CallMkdir, api.CallSymlink}[x.r.Intn(2)]
	}
	if c.Kind == api.CallSymlink && x.r.Intn(2) == 0 {
		c.Other = []string{"a", "../b", "b/", ".", "/", "c/a", "x", ""}[x.r.Intn(8)]
	}
	return c
}

// path is a made-up one of few names.
func (x *weather) path() string {
	if x.r.Intn(40) == 0 {
		return []string{"", "a", "/abcdefghijklm", "/\x00", "/..", "//"}[x.r.Intn(6)]
	}
	path := ""
	for range 1 + x.r.Intn(5)*x.r.Intn(2)/2 {
		path += "/" + []string{"a", "b", "c", "a", "b", "c", "d", "\xff", "..", "."}[x.r.Intn(10)]
	}
	if x.r.Intn(12) == 0 {
		path += "/"
	}
	return path
}
