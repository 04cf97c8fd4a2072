// Package tile is layer 21: computing a task (shared/doc/21-tile.md).
package tile

import "tilefarm/api"

// Compute is described in the chapter.
func Compute(s api.Stage, t api.Task, p, q, own api.Plane, parts [][]int) (_ []int, _ api.Code) {
	return
}

// Put is described in the chapter.
func Put(own api.Plane, t api.Task, pix []int) (_ api.Plane, _ api.Code) { return }
