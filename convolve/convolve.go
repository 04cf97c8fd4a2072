// Package convolve is layer 9: dense convolution (shared/doc/09-convolve.md).
package convolve

import "tilefarm/api"

// Check is described in the chapter.
func Check(max, kw, kh int, weights []int, shift, out int) (_ api.Code) { return }

// Tile is described in the chapter.
func Tile(p api.Plane, e api.Edge, kw, kh int, weights []int, shift, out int, r api.Rect) (_ api.Plane, _ api.Code) {
	return
}
