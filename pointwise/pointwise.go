// Package pointwise is layer 14: programs for pixels (shared/doc/14-pointwise.md).
package pointwise

import "tilefarm/api"

// Valid is described in the chapter.
func Valid(l []api.Op, two bool) (_ api.Code) { return }

// Interval is described in the chapter.
func Interval(l []api.Op, a, b int) (_ int, _ int, _ api.Code) { return }

// Eval is described in the chapter.
func Eval(l []api.Op, a, b int) (_ int, _ api.Code) { return }

// Tile is described in the chapter.
func Tile(p, q api.Plane, two bool, l []api.Op, out int, r api.Rect) (_ api.Plane, _ api.Code) {
	return
}
