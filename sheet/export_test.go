package sheet

import "vista/api"

// Path is what a word of a path means.
var Path = path

// Player plays lines apart from a sheet.
type Player struct{ p *player }

// NewPlayer stands ahead of the first line.
func NewPlayer() Player { return Player{newPlayer()} }

// Line plays a line, and tells what it says.
func (x Player) Line(text string) string { return x.p.line(text) }

// Sights tells what an audit would be asked of.
func (x Player) Sights() []api.Sight { return x.p.sights }

// Saw makes the world one in which a client has seen that.
func (x Player) Saw(s api.Sight) { x.p.sights = append(x.p.sights, s) }
