// Package separable is layer 10: convolution by rows and columns (shared/doc/10-separable.md).
package separable

import (
	"tilefarm/api"
	"tilefarm/border"
	"tilefarm/fixed"
	"tilefarm/plane"
	"tilefarm/rect"
)

// Check returns the error of the weights of rows and columns with their round shifts, for planes with this max and
// results with the Max out.
func Check(max int, row, col []int, shift, shift2, out int) api.Code {
	if !within(len(row), 1, api.MaxKernel) || !within(len(col), 1, api.MaxKernel) {
		return api.ErrKernel
	}
	if fixed.Weights(row) != api.OK || fixed.Weights(col) != api.OK {
		return api.ErrWeight
	}
	if !within(shift, 0, api.MaxShift) || !within(shift2, 0, api.MaxShift) {
		return api.ErrWeight
	}
	if !within(max, 1, api.MaxValue) || !within(out, 1, api.MaxValue) {
		return api.ErrRange
	}
	least, greatest, ok := fixed.Bounds(row, 0, max)
	if !ok {
		return api.ErrAccumulator
	}
	low, high := fixed.Span(least, greatest, shift)
	if _, _, ok := fixed.Bounds(col, low, high); !ok {
		return api.ErrAccumulator
	}
	return api.OK
}

// Tile returns the pixels in r of the convolution of p by rows and then by columns, as a plane with the Max out.
func Tile(p api.Plane, e api.Edge, row, col []int, shift, shift2, out int, r api.Rect) (api.Plane, api.Code) {
	if !plane.Valid(p) || !border.Valid(e, p.Max) {
		return api.Plane{}, api.ErrInvalid
	}
	if code := Check(p.Max, row, col, shift, shift2, out); code != api.OK {
		return api.Plane{}, code
	}
	if rect.Empty(r) || !rect.Inside(r, api.Rect{X1: p.W, Y1: p.H}) {
		return api.Plane{}, api.ErrShape
	}
	tile, _ := plane.New(r.X1-r.X0, r.Y1-r.Y0, out)
	n, top := len(col), r.Y0-len(col)/2
	// The row i of h, counted from top, lies at i modulo n: each row that is computed takes the place of the one that no
	// further result needs.
	ring := make([][]int, n)
	for i := range n - 1 {
		ring[i] = weighted(p, e, row, shift, r.X0, tile.W, top+i)
	}
	for y := range tile.H {
		last := y + n - 1
		ring[last%n] = weighted(p, e, row, shift, r.X0, tile.W, top+last)
		for x := range tile.W {
			tile.Pix[y*tile.W+x] = fixed.Clamp(fixed.Shift(sum(ring, col, x, y), shift2), out)
		}
	}
	return tile, api.OK
}

// sum returns the sum of the weights, each multiplied by a number at x in the rows of the ring from y on. Check has found
// that it is from -MaxAcc to MaxAcc.
func sum(ring [][]int, col []int, x, y int) int {
	t := 0
	for j, weight := range col {
		t += weight * ring[(y+j)%len(ring)][x]
	}
	return t
}

// weighted returns h(x, y) for the w coordinates x from left on. It is neither clamped nor mapped by the border: outside
// of the plane, too, it is made of the pixels that stand for those coordinates.
func weighted(p api.Plane, e api.Edge, row []int, shift, left, w, y int) []int {
	pixels := line(p, e, left-len(row)/2, w+len(row)-1, y)
	h := make([]int, w)
	for x := range h {
		s := 0
		for i, weight := range row {
			s += weight * pixels[x+i]
		}
		h[x] = fixed.Shift(s, shift)
	}
	return h
}

// line returns plane.At for the w coordinates x from left on, of a valid plane and edge: plane.At itself would check
// both again for each pixel.
func line(p api.Plane, e api.Edge, left, w, y int) []int {
	pixels := make([]int, w)
	row, inRows := border.Index(y, p.H, e.Policy)
	for i := range pixels {
		column, inColumns := border.Index(left+i, p.W, e.Policy)
		if inRows && inColumns {
			pixels[i] = p.Pix[row*p.W+column]
		} else {
			pixels[i] = e.Fill
		}
	}
	return pixels
}

// within reports whether n is from least to greatest.
func within(n, least, greatest int) bool {
	return least <= n && n <= greatest
}
