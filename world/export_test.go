package world

import (
	"vista/api"
	"vista/block"
)

// Lay lets a test lay a letter in flight that nobody would post.
func (w *World) Lay(l api.Letter) { w.bag.Post(l) }

// Post lets a test send messages that nobody would send.
func (w *World) Post(out ...api.Msg) { w.post(out) }

// SetLife lets a test stand near the greatest life: there are more crashes on the way to it than any test can make.
func (w *World) SetLife(client, life int) {
	w.clients[client-1].life = life - 1
	w.renew(client)
}

// Raw lets a test spoil the disk itself.
func (w *World) Raw() *block.Disk { return w.disk }
