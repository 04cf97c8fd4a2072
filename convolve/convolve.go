// Package convolve is layer 9: dense convolution (shared/doc/09-convolve.md).
package convolve

import (
	"tilefarm/api"
	"tilefarm/border"
	"tilefarm/fixed"
	"tilefarm/plane"
	"tilefarm/rect"
)

// Check returns the error of a kernel of kw x kh weights with a round shift, for planes with this max and results with
// the Max out.
func Check(max, kw, kh int, weights []int, shift, out int) api.Code {
	// The sides are checked before they are multiplied, because a product of any ints may not fit in an int.
	if !within(kw, api.MaxKernel) || !within(kh, api.MaxKernel) || len(weights) != kw*kh {
		return api.ErrKernel
	}
	if fixed.Weights(weights) != api.OK || shift < 0 || shift > api.MaxShift {
		return api.ErrWeight
	}
	if !within(max, api.MaxValue) || !within(out, api.MaxValue) {
		return api.ErrRange
	}
	if _, _, ok := fixed.Bounds(weights, 0, max); !ok {
		return api.ErrAccumulator
	}
	return api.OK
}

// Tile returns the pixels in r of the convolution of p, as a plane with the Max out.
func Tile(p api.Plane, e api.Edge, kw, kh int, weights []int, shift, out int, r api.Rect) (api.Plane, api.Code) {
	if !plane.Valid(p) || !border.Valid(e, p.Max) {
		return api.Plane{}, api.ErrInvalid
	}
	if code := Check(p.Max, kw, kh, weights, shift, out); code != api.OK {
		return api.Plane{}, code
	}
	if rect.Empty(r) || !rect.Inside(r, api.Rect{X1: p.W, Y1: p.H}) {
		return api.Plane{}, api.ErrShape
	}
	tile, _ := plane.New(r.X1-r.X0, r.Y1-r.Y0, out)
	for y := range tile.H {
		for x := range tile.W {
			s := sum(p, e, kw, kh, weights, r.X0+x-kw/2, r.Y0+y-kh/2)
			tile.Pix[y*tile.W+x] = fixed.Clamp(fixed.Shift(s, shift), out)
		}
	}
	return tile, api.OK
}

// sum returns the sum of the weights, each multiplied by its pixel, where the first weight lies on (left, top). Check
// has found that it is from -MaxAcc to MaxAcc.
func sum(p api.Plane, e api.Edge, kw, kh int, weights []int, left, top int) int {
	s := 0
	for j := range kh {
		for i := range kw {
			s += weights[j*kw+i] * pixel(p, e, left+i, top+j)
		}
	}
	return s
}

// pixel returns plane.At of a valid plane and edge, which plane.At itself would check again for each pixel.
func pixel(p api.Plane, e api.Edge, x, y int) int {
	// The border maps such coordinates to themselves, so most pixels need not ask it.
	if 0 <= x && x < p.W && 0 <= y && y < p.H {
		return p.Pix[y*p.W+x]
	}
	column, inColumns := border.Index(x, p.W, e.Policy)
	row, inRows := border.Index(y, p.H, e.Policy)
	if !inColumns || !inRows {
		return e.Fill
	}
	return p.Pix[row*p.W+column]
}

// within reports whether n is from 1 to limit.
func within(n, limit int) bool {
	return 1 <= n && n <= limit
}
