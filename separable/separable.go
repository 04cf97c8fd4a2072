// Package separable is layer 10: convolution by rows and columns (shared/doc/10-separable.md).
package separable

import "tilefarm/api"

// Check is described in the chapter.
func Check(max int, row, col []int, shift, shift2, out int) (_ api.Code) { return }

// Tile is described in the chapter.
func Tile(p api.Plane, e api.Edge, row, col []int, shift, shift2, out int, r api.Rect) (_ api.Plane, _ api.Code) {
	return
}
