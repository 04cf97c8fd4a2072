// Package resize is layer 11: resizing with tables (shared/doc/11-resize.md).
package resize

import "tilefarm/api"

// Check is described in the chapter.
func Check(shape api.Shape, x, y []api.Tap, shift, shift2, out int) (_ api.Code) { return }

// Tile is described in the chapter.
func Tile(p api.Plane, e api.Edge, x, y []api.Tap, shift, shift2, out int, r api.Rect) (_ api.Plane, _ api.Code) {
	return
}
