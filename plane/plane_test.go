package plane

import (
	"fmt"
	"math"
	"math/big"
	"slices"
	"testing"

	"tilefarm/api"
)

func of(w, h, max int, pix ...int) api.Plane { return api.Plane{W: w, H: h, Max: max, Pix: pix} }

func from(x0, y0, x1, y1 int) api.Rect { return api.Rect{X0: x0, Y0: y0, X1: x1, Y1: y1} }

func filled(w, h, max, value int) api.Plane {
	return of(w, h, max, slices.Repeat([]int{value}, w*h)...)
}

// counted returns a plane whose pixels are all different: first, first + 1, ..
func counted(w, h, max, first int) api.Plane {
	p := filled(w, h, max, 0)
	for i := range p.Pix {
		p.Pix[i] = first + i
	}
	return p
}

// same is the definition of equal planes, apart from Equal.
func same(p, q api.Plane) bool {
	if p.W != q.W || p.H != q.H || p.Max != q.Max || len(p.Pix) != len(q.Pix) {
		return false
	}
	for i, pixel := range p.Pix {
		if pixel != q.Pix[i] {
			return false
		}
	}
	return true
}

func isZero(p api.Plane) bool { return same(p, api.Plane{}) }

// show is a plane as text, with its first pixels only.
func show(p api.Plane) string {
	return fmt.Sprintf("%d x %d, Max %d, %d pixels %v", p.W, p.H, p.Max, len(p.Pix), p.Pix[:min(len(p.Pix), 30)])
}

func clone(p api.Plane) api.Plane {
	p.Pix = slices.Clone(p.Pix)
	return p
}

// sizes lists sizes and a Max that no plane has.
var sizes = []struct {
	name      string
	w, h, max int
}{
	{"all 0", 0, 0, 0},
	{"W 0", 0, 1, 255},
	{"H 0", 1, 0, 255},
	{"W and H 0", 0, 0, 255},
	{"W -1", -1, 1, 255},
	{"H -1", 1, -1, 255},
	{"W and H -1", -1, -1, 255},
	{"W and H -2", -2, -2, 255},
	{"W beyond MaxSide", api.MaxSide + 1, 1, 255},
	{"H beyond MaxSide", 1, api.MaxSide + 1, 255},
	{"W beyond MaxSide, H 0", api.MaxSide + 1, 0, 255},
	{"W * H one row beyond MaxPixels", 128, 33, 255},
	{"W * H one column beyond MaxPixels", 33, 128, 255},
	{"W * H as little beyond MaxPixels as sides allow", 41, 100, 255},
	{"W * H one pixel beyond MaxPixels, H beyond MaxSide", 17, 241, 255},
	{"H beyond MaxSide, few pixels", 17, 240, 255},
	{"W and H MaxSide", 128, 128, 255},
	{"Max 0", 1, 1, 0},
	{"Max -1", 1, 1, -1},
	{"Max beyond MaxValue", 1, 1, api.MaxValue + 1},
	{"Max least int", 1, 1, math.MinInt},
	{"Max greatest int", 1, 1, math.MaxInt},
	{"W least int", math.MinInt, 1, 255},
	{"H least int", 1, math.MinInt, 255},
	{"W greatest int", math.MaxInt, 1, 255},
	{"H greatest int", 1, math.MaxInt, 255},
	{"W and H greatest int", math.MaxInt, math.MaxInt, 255},
	{"W * H wraps to 0", 1 << 32, 1 << 32, 255},
	{"W * H wraps to 1", math.MaxInt, math.MaxInt, 255},
	{"least ints", math.MinInt, math.MinInt, math.MinInt},
}

// invalid returns planes that are not valid, by their names.
func invalid() map[string]api.Plane {
	l := map[string]api.Plane{
		"zero plane":                   {},
		"nil Pix":                      of(2, 2, 255),
		"empty Pix":                    {W: 2, H: 2, Max: 255, Pix: []int{}},
		"one pixel too few":            of(2, 2, 255, 1, 2, 3),
		"one pixel too many":           of(2, 2, 255, 1, 2, 3, 4, 5),
		"one pixel beyond MaxPixels":   of(128, 32, 255, make([]int, 4097)...),
		"a row too few":                of(2, 2, 255, 1, 2),
		"W + H pixels":                 of(3, 2, 255, 1, 2, 3, 4, 5),
		"first pixel below 0":          of(2, 2, 255, -1, 2, 3, 4),
		"middle pixel below 0":         of(2, 2, 255, 1, -1, 3, 4),
		"last pixel below 0":           of(2, 2, 255, 1, 2, 3, -1),
		"pixel least int":              of(2, 2, 255, 1, 2, 3, math.MinInt),
		"first pixel above Max":        of(2, 2, 3, 4, 0, 0, 0),
		"middle pixel above Max":       of(2, 2, 3, 0, 0, 4, 0),
		"last pixel above Max":         of(2, 2, 3, 0, 0, 0, 4),
		"pixel greatest int":           of(2, 2, 3, 0, 0, 0, math.MaxInt),
		"pixel above MaxValue":         of(1, 1, api.MaxValue, api.MaxValue+1),
		"pixel of Max + 1 and Max + 1": of(1, 1, api.MaxValue+1, api.MaxValue+1),
		"pixel -1 and Max -1":          of(1, 1, -1, -1),
		"pixel 0 and Max 0":            of(1, 1, 0, 0),
	}
	for _, c := range sizes {
		// The pixels are right in number where that is possible, so that only the size is wrong.
		count := 1
		if 0 <= c.w && c.w <= 200 && 0 <= c.h && c.h <= 300 {
			count = c.w * c.h
		}
		l["size: "+c.name] = of(c.w, c.h, c.max, make([]int, count)...)
		l["size without pixels: "+c.name] = of(c.w, c.h, c.max)
	}
	l["size: -2 by -2 with 4 pixels"] = of(-2, -2, 255, 1, 2, 3, 4)
	return l
}

// valid lists the small planes that the tests of Crop and Blit try, and planes at the limits.
func valid() []api.Plane {
	return []api.Plane{
		of(1, 1, 1, 0),
		of(1, 1, 1, 1),
		of(1, 1, api.MaxValue, api.MaxValue),
		of(2, 2, 255, 1, 2, 3, 4),
		of(2, 2, 4, 4, 4, 4, 4),
		of(2, 2, 4, 0, 0, 0, 4),
		counted(4, 3, 255, 1),
		counted(3, 4, 12, 1),
		counted(5, 1, 255, 7),
		counted(1, 5, 255, 7),
		counted(api.MaxSide, 1, 255, 1),
		counted(1, api.MaxSide, 255, 1),
		counted(128, 32, 4095, 0),
		counted(32, 128, api.MaxValue, 5),
		counted(64, 64, 9999, 1),
		filled(128, 32, 1, 0),
		filled(63, 65, 1, 1),
	}
}

// P4.1, Valid.
func TestValidCases(t *testing.T) {
	for i, p := range valid() {
		if !Valid(p) {
			t.Errorf("Valid refuses plane %d, %d x %d", i, p.W, p.H)
		}
	}
	for name, p := range invalid() {
		if Valid(p) {
			t.Errorf("%s: Valid accepts %d x %d, Max %d", name, p.W, p.H, p.Max)
		}
	}
}

// P4.1, Valid: one wrong pixel at each place of a plane.
func TestValidEveryPixel(t *testing.T) {
	p := filled(6, 5, 9, 9)
	for i := range p.Pix {
		for _, c := range []struct {
			pixel int
			want  bool
		}{{-1, false}, {10, false}, {math.MinInt, false}, {math.MaxInt, false}, {0, true}, {5, true}, {9, true}} {
			p.Pix[i] = c.pixel
			if got := Valid(p); got != c.want {
				t.Errorf("Valid with the pixel %d at %d is %v", c.pixel, i, got)
			}
		}
		p.Pix[i] = 9
	}
}

// P4.1, Valid: the number of elements for each size.
func TestValidCounts(t *testing.T) {
	pix := make([]int, 40)
	for w := 1; w <= 6; w++ {
		for h := 1; h <= 6; h++ {
			for count := range pix {
				if got := Valid(of(w, h, 1, pix[:count]...)); got != (count == w*h) {
					t.Errorf("Valid of %d x %d with %d elements is %v", w, h, count, got)
				}
			}
		}
	}
}

// P4.1, Valid and New: all sizes around the limits.
func TestSizes(t *testing.T) {
	pix := make([]int, 131*131)
	for w := -2; w <= 131; w++ {
		for h := -2; h <= 131; h++ {
			want := 1 <= w && w <= 128 && 1 <= h && h <= 128 && w*h <= 4096
			if got := Valid(of(w, h, 7, pix[:max(w*h, 0)]...)); got != want {
				t.Errorf("Valid of %d x %d is %v", w, h, got)
			}
			p, ok := New(w, h, 7)
			if ok != want || ok && !same(p, of(w, h, 7, pix[:w*h]...)) || !ok && !isZero(p) {
				t.Errorf("New of %d x %d is %d x %d, %v", w, h, p.W, p.H, ok)
			}
		}
	}
}

// P4.1, New: planes of zeros.
func TestNewCases(t *testing.T) {
	for _, c := range []struct {
		name      string
		w, h, max int
	}{
		{"one pixel", 1, 1, 1},
		{"ordinary", 3, 2, 255},
		{"greatest Max", 3, 2, api.MaxValue},
		{"widest", api.MaxSide, 1, 255},
		{"highest", 1, api.MaxSide, 255},
		{"MaxPixels, wide", 128, 32, 255},
		{"MaxPixels, high", 32, 128, api.MaxValue},
		{"MaxPixels, square", 64, 64, 1},
	} {
		p, ok := New(c.w, c.h, c.max)
		if !ok || !same(p, filled(c.w, c.h, c.max, 0)) || !Valid(p) {
			t.Errorf("%s: New(%d, %d, %d) = %v, %v", c.name, c.w, c.h, c.max, p, ok)
		}
	}
}

// P4.1, New: sizes that no plane has.
func TestNewInvalid(t *testing.T) {
	for _, c := range sizes {
		if p, ok := New(c.w, c.h, c.max); ok || !isZero(p) {
			t.Errorf("%s: New(%d, %d, %d) = %v, %v", c.name, c.w, c.h, c.max, p, ok)
		}
	}
}

const (
	least    = math.MinInt
	greatest = math.MaxInt
)

var (
	clamp  = api.Edge{Policy: api.BorderClamp}
	mirror = api.Edge{Policy: api.BorderMirror}
	wrap   = api.Edge{Policy: api.BorderWrap}
)

func constant(fill int) api.Edge { return api.Edge{Policy: api.BorderConstant, Fill: fill} }

// P4.2.
func TestAtCases(t *testing.T) {
	// 1 2 3
	// 4 5 6
	p := counted(3, 2, 255, 1)
	for _, c := range []struct {
		name string
		e    api.Edge
		x, y int
		want int
	}{
		{"clamp: inside", clamp, 1, 1, 5},
		{"clamp: left", clamp, -7, 1, 4},
		{"clamp: right", clamp, 3, 0, 3},
		{"clamp: above", clamp, 1, -1, 2},
		{"clamp: below", clamp, 1, 2, 5},
		{"clamp: right above", clamp, 9, -9, 3},
		{"clamp: ends of int", clamp, least, greatest, 4},
		{"clamp: other ends of int", clamp, greatest, least, 3},

		{"mirror: inside", mirror, 2, 1, 6},
		{"mirror: left", mirror, -2, 1, 5},
		{"mirror: right", mirror, 3, 0, 3},
		{"mirror: far right", mirror, 4, 0, 2},
		{"mirror: above", mirror, 1, -1, 2},
		{"mirror: far above", mirror, 1, -2, 5},
		{"mirror: below", mirror, 1, 2, 5},
		{"mirror: far below", mirror, 1, 3, 2},
		{"mirror: left below", mirror, -1, 5, 4},
		{"mirror: ends of int", mirror, least, greatest, 2},       // -2^63 modulo 6 is 4, 2^63 - 1 modulo 4 is 3.
		{"mirror: other ends of int", mirror, greatest, least, 2}, // 2^63 - 1 modulo 6 is 1, -2^63 modulo 4 is 0.

		{"wrap: inside", wrap, 0, 1, 4},
		{"wrap: left", wrap, -1, 1, 6},
		{"wrap: right", wrap, 3, 1, 4},
		{"wrap: above", wrap, 1, -1, 5},
		{"wrap: below", wrap, 1, 2, 2},
		{"wrap: far left above", wrap, -5, -3, 5},
		{"wrap: ends of int", wrap, least, greatest, 5},       // -2^63 modulo 3 is 1.
		{"wrap: other ends of int", wrap, greatest, least, 2}, // 2^63 - 1 modulo 3 is 1.

		{"constant: inside", constant(9), 2, 1, 6},
		{"constant: first pixel", constant(9), 0, 0, 1},
		{"constant: left", constant(9), -1, 0, 9},
		{"constant: right", constant(9), 3, 0, 9},
		{"constant: above", constant(9), 0, -1, 9},
		{"constant: below", constant(9), 0, 2, 9},
		{"constant: outside of both", constant(9), 3, 2, 9},
		{"constant: 0", constant(0), 3, 2, 0},
		{"constant: Max", constant(255), -1, -1, 255},
		{"constant: Max, inside", constant(255), 1, 0, 2},
		{"constant: ends of int", constant(9), least, greatest, 9},
		{"constant: one end of int", constant(9), 0, least, 9},
		{"constant: other end of int", constant(9), greatest, 1, 9},

		{"constant beyond Max, inside", constant(256), 1, 1, 0},
		{"constant beyond Max, outside", constant(256), -1, 1, 0},
		{"constant below 0, inside", constant(-1), 1, 1, 0},
		{"constant below 0, outside", constant(-1), -1, 1, 0},
		{"clamp with Fill", api.Edge{Policy: api.BorderClamp, Fill: 1}, 1, 1, 0},
		{"mirror with Fill", api.Edge{Policy: api.BorderMirror, Fill: 1}, 1, 1, 0},
		{"wrap with Fill", api.Edge{Policy: api.BorderWrap, Fill: -1}, 1, 1, 0},
		{"no policy, -1", api.Edge{Policy: -1}, 1, 1, 0},
		{"no policy, 4", api.Edge{Policy: 4}, 1, 1, 0},
		{"no policy, 4 with Fill, outside", api.Edge{Policy: 4, Fill: 9}, -1, 1, 0},
		{"no policy, least int", api.Edge{Policy: least}, 1, 1, 0},
	} {
		if got := At(p, c.e, c.x, c.y); got != c.want {
			t.Errorf("%s: At(%v, %d, %d) = %d, not %d", c.name, c.e, c.x, c.y, got, c.want)
		}
	}
}

// P4.2: example 2.
func TestAtExample(t *testing.T) {
	if got := At(of(2, 2, 255, 1, 2, 3, 4), mirror, -1, 5); got != 3 {
		t.Error(got)
	}
}

// P4.2: the Max of the plane bounds Fill, whatever its pixels are.
func TestAtFill(t *testing.T) {
	p := of(1, 1, api.MaxValue, 7)
	for _, c := range []struct{ fill, inside, outside int }{
		{0, 7, 0}, {8, 7, 8}, {api.MaxValue, 7, api.MaxValue}, {api.MaxValue + 1, 0, 0}, {greatest, 0, 0}, {least, 0, 0},
	} {
		if inside, outside := At(p, constant(c.fill), 0, 0), At(p, constant(c.fill), 1, 0); inside != c.inside || outside != c.outside {
			t.Errorf("Fill %d: %d inside and %d outside", c.fill, inside, outside)
		}
	}
}

// mapped is the definition of chapter 3, with integers of any size.
func mapped(i, n, policy int) (int, bool) {
	modulo := func(k int) int {
		return int(new(big.Int).Mod(big.NewInt(int64(i)), big.NewInt(int64(k))).Int64())
	}
	switch {
	case 0 <= i && i < n:
		return i, true
	case policy == api.BorderConstant:
		return 0, false
	case policy == api.BorderWrap:
		return modulo(n), true
	case policy == api.BorderMirror && modulo(2*n) < n:
		return modulo(2 * n), true
	case policy == api.BorderMirror:
		return 2*n - 1 - modulo(2*n), true
	case i < 0:
		return 0, true
	}
	return n - 1, true
}

// P4.2: every policy, with planes whose pixels are all different, around the plane and at the ends of int.
func TestAtReference(t *testing.T) {
	coordinates := []int{least, least + 1, least + 5, -1000001, 1000001, greatest - 5, greatest - 1, greatest}
	for i := -13; i <= 13; i++ {
		coordinates = append(coordinates, i)
	}
	for _, p := range []api.Plane{counted(1, 1, 255, 1), counted(2, 3, 255, 1), counted(4, 1, 255, 1), counted(1, 5, 255, 1), counted(5, 4, 255, 1)} {
		for _, e := range []api.Edge{clamp, mirror, wrap, constant(0), constant(200)} {
			for _, x := range coordinates {
				for _, y := range coordinates {
					want := e.Fill
					column, inColumns := mapped(x, p.W, e.Policy)
					line, inLines := mapped(y, p.H, e.Policy)
					if inColumns && inLines {
						want = p.Pix[line*p.W+column]
					}
					if got := At(p, e, x, y); got != want {
						t.Fatalf("At(%d x %d, %v, %d, %d) = %d, want %d", p.W, p.H, e, x, y, got, want)
					}
				}
			}
		}
	}
}

// P4.2: planes that are not valid, with Fill where it is accepted.
func TestAtInvalidPlane(t *testing.T) {
	for name, p := range invalid() {
		for _, e := range []api.Edge{clamp, mirror, wrap, constant(0), constant(1)} {
			for _, i := range []int{least, -1, 0, 1, greatest} {
				if got := At(p, e, i, i); got != 0 {
					t.Errorf("%s: At(%v, %d, %d) = %d", name, e, i, i, got)
				}
			}
		}
	}
}

// P4.3, Crop.
func TestCropCases(t *testing.T) {
	// 1 2 3
	// 4 5 6
	p := counted(3, 2, 9, 1)
	for _, c := range []struct {
		name string
		r    api.Rect
		want api.Plane
		ok   bool
	}{
		{"whole", from(0, 0, 3, 2), p, true},
		{"first pixel", from(0, 0, 1, 1), of(1, 1, 9, 1), true},
		{"last pixel", from(2, 1, 3, 2), of(1, 1, 9, 6), true},
		{"a row", from(0, 1, 3, 2), of(3, 1, 9, 4, 5, 6), true},
		{"a column", from(1, 0, 2, 2), of(1, 2, 9, 2, 5), true},
		{"right columns", from(1, 0, 3, 2), of(2, 2, 9, 2, 3, 5, 6), true},
		{"left columns", from(0, 0, 2, 2), of(2, 2, 9, 1, 2, 4, 5), true},
		{"empty", from(0, 0, 0, 0), api.Plane{}, false},
		{"no columns", from(1, 0, 1, 2), api.Plane{}, false},
		{"no rows", from(0, 1, 3, 1), api.Plane{}, false},
		{"reversed columns", from(2, 0, 1, 2), api.Plane{}, false},
		{"reversed rows", from(0, 2, 3, 1), api.Plane{}, false},
		{"reversed", from(3, 2, 0, 0), api.Plane{}, false},
		{"beyond the left", from(-1, 0, 2, 2), api.Plane{}, false},
		{"beyond the top", from(0, -1, 3, 1), api.Plane{}, false},
		{"beyond the right", from(1, 0, 4, 2), api.Plane{}, false},
		{"beyond the bottom", from(0, 1, 3, 3), api.Plane{}, false},
		{"beyond all sides", from(-1, -1, 4, 3), api.Plane{}, false},
		{"wholly left", from(-2, 0, 0, 2), api.Plane{}, false},
		{"wholly right", from(3, 0, 5, 2), api.Plane{}, false},
		{"wholly below", from(0, 2, 3, 3), api.Plane{}, false},
		{"wholly above", from(0, -2, 3, 0), api.Plane{}, false},
		{"swapped sides", from(0, 0, 2, 3), api.Plane{}, false},
		{"beyond MaxCoord", from(0, 0, api.MaxCoord+1, 2), api.Plane{}, false},
		{"all ints", from(least, least, greatest, greatest), api.Plane{}, false},
		{"all ints reversed", from(greatest, greatest, least, least), api.Plane{}, false},
	} {
		if got, ok := Crop(p, c.r); ok != c.ok || !same(got, c.want) {
			t.Errorf("%s: Crop(%v) = %v, %v", c.name, c.r, got, ok)
		}
	}
}

// P4.3, Crop: example 1.
func TestCropExample(t *testing.T) {
	got, ok := Crop(of(2, 2, 255, 1, 2, 3, 4), from(1, 0, 2, 2))
	if !ok || !same(got, of(1, 2, 255, 2, 4)) {
		t.Error(got, ok)
	}
}

// P4.3, Crop: every rectangle around small planes, pixel by pixel.
func TestCropReference(t *testing.T) {
	for _, p := range []api.Plane{counted(1, 1, 255, 1), counted(4, 3, 255, 1), counted(3, 4, 12, 1), counted(5, 1, 255, 0)} {
		for x0 := -2; x0 <= 6; x0++ {
			for y0 := -2; y0 <= 6; y0++ {
				for x1 := -2; x1 <= 6; x1++ {
					for y1 := -2; y1 <= 6; y1++ {
						cropped(t, p, from(x0, y0, x1, y1))
					}
				}
			}
		}
	}
}

// cropped compares a crop with its definition.
func cropped(t *testing.T, p api.Plane, r api.Rect) {
	t.Helper()
	want := api.Plane{}
	ok := 0 <= r.X0 && r.X0 < r.X1 && r.X1 <= p.W && 0 <= r.Y0 && r.Y0 < r.Y1 && r.Y1 <= p.H
	if ok {
		want = of(r.X1-r.X0, r.Y1-r.Y0, p.Max)
		for y := r.Y0; y < r.Y1; y++ {
			for x := r.X0; x < r.X1; x++ {
				want.Pix = append(want.Pix, p.Pix[y*p.W+x])
			}
		}
	}
	if got, gotOK := Crop(p, r); gotOK != ok || !same(got, want) {
		t.Errorf("Crop(%d x %d, %v) = %s, %v, want %s, %v", p.W, p.H, r, show(got), gotOK, show(want), ok)
	}
}

// P4.3, Crop: planes at the limits.
func TestCropGreat(t *testing.T) {
	for _, p := range valid() {
		cropped(t, p, from(0, 0, p.W, p.H))
		cropped(t, p, from(p.W/2, p.H/3, p.W, p.H))
		cropped(t, p, from(p.W-1, p.H-1, p.W, p.H))
		cropped(t, p, from(0, 0, p.W+1, p.H))
		cropped(t, p, from(0, 0, p.W, p.H+1))
	}
}

// P4.3, Crop: planes that are not valid, also where the rectangle has valid pixels only.
func TestCropInvalidPlane(t *testing.T) {
	for name, p := range invalid() {
		for _, r := range []api.Rect{{}, from(0, 0, 1, 1), from(0, 0, 2, 1), from(1, 1, 2, 2), from(0, 0, p.W, p.H)} {
			if got, ok := Crop(p, r); ok || !isZero(got) {
				t.Errorf("%s: Crop(%v) = %v, %v", name, r, got, ok)
			}
		}
	}
}

// P4.3, Blit.
func TestBlitCases(t *testing.T) {
	// 1 2 3
	// 4 5 6
	p := counted(3, 2, 9, 1)
	pair := of(2, 1, 9, 8, 9)
	for _, c := range []struct {
		name string
		q    api.Plane
		x, y int
		want api.Plane
		ok   bool
	}{
		{"left above", pair, 0, 0, of(3, 2, 9, 8, 9, 3, 4, 5, 6), true},
		{"right above", pair, 1, 0, of(3, 2, 9, 1, 8, 9, 4, 5, 6), true},
		{"left below", pair, 0, 1, of(3, 2, 9, 1, 2, 3, 8, 9, 6), true},
		{"right below", pair, 1, 1, of(3, 2, 9, 1, 2, 3, 4, 8, 9), true},
		{"a column", of(1, 2, 9, 0, 7), 1, 0, of(3, 2, 9, 1, 0, 3, 4, 7, 6), true},
		{"itself", p, 0, 0, p, true},
		{"the whole plane", counted(3, 2, 9, 4), 0, 0, of(3, 2, 9, 4, 5, 6, 7, 8, 9), true},
		{"zeros", filled(2, 2, 1, 0), 1, 0, of(3, 2, 9, 1, 0, 0, 4, 0, 0), true},
		{"a lesser Max", of(1, 1, 1, 1), 2, 0, of(3, 2, 9, 1, 2, 1, 4, 5, 6), true},
		{"a greater Max, pixels that fit", of(2, 1, api.MaxValue, 0, 9), 0, 0, of(3, 2, 9, 0, 9, 3, 4, 5, 6), true},

		{"first pixel too great", of(2, 1, 10, 10, 0), 0, 0, api.Plane{}, false},
		{"last pixel too great", of(2, 1, 10, 0, 10), 0, 0, api.Plane{}, false},
		{"pixel much too great", of(1, 1, api.MaxValue, api.MaxValue), 0, 0, api.Plane{}, false},
		{"beyond the left", pair, -1, 0, api.Plane{}, false},
		{"beyond the top", pair, 0, -1, api.Plane{}, false},
		{"beyond the right", pair, 2, 0, api.Plane{}, false},
		{"beyond the bottom", pair, 0, 2, api.Plane{}, false},
		{"a column beyond the bottom", of(1, 2, 9, 0, 7), 0, 1, api.Plane{}, false},
		{"wholly left", pair, -2, 0, api.Plane{}, false},
		{"wholly right", pair, 3, 0, api.Plane{}, false},
		{"wholly above", pair, 0, -2, api.Plane{}, false},
		{"least x", pair, least, 0, api.Plane{}, false},
		{"least y", pair, 0, least, api.Plane{}, false},
		{"greatest x", pair, greatest, 0, api.Plane{}, false},
		{"greatest y", pair, 0, greatest, api.Plane{}, false},
		{"x that wraps to 0", pair, greatest - 1, 0, api.Plane{}, false},
		{"too wide", filled(4, 1, 9, 0), 0, 0, api.Plane{}, false},
		{"too wide, from -1", filled(4, 1, 9, 0), -1, 0, api.Plane{}, false},
		{"too high", filled(1, 3, 9, 0), 0, 0, api.Plane{}, false},
		{"too high, from -1", filled(1, 3, 9, 0), 0, -1, api.Plane{}, false},
		{"swapped sides", filled(2, 3, 9, 0), 0, 0, api.Plane{}, false},
	} {
		if got, ok := Blit(p, c.q, c.x, c.y); ok != c.ok || !same(got, c.want) {
			t.Errorf("%s: Blit(%v, %d, %d) = %v, %v", c.name, c.q, c.x, c.y, got, ok)
		}
	}
}

// P4.3, Blit: every place around small planes, pixel by pixel.
func TestBlitReference(t *testing.T) {
	for _, p := range []api.Plane{counted(1, 1, 255, 1), counted(4, 3, 255, 1), counted(3, 4, 255, 1)} {
		for w := 1; w <= 5; w++ {
			for h := 1; h <= 5; h++ {
				for x := -5; x <= 5; x++ {
					for y := -5; y <= 5; y++ {
						blitted(t, p, counted(w, h, 255, 100), x, y)
					}
				}
			}
		}
	}
}

// blitted compares a blit with its definition, and crops what was blitted.
func blitted(t *testing.T, p, q api.Plane, x, y int) {
	t.Helper()
	want := api.Plane{}
	ok := 0 <= x && x+q.W <= p.W && 0 <= y && y+q.H <= p.H
	if ok {
		want = clone(p)
		for i, pixel := range q.Pix {
			want.Pix[(y+i/q.W)*p.W+x+i%q.W] = pixel
		}
	}
	got, gotOK := Blit(p, q, x, y)
	if gotOK != ok || !same(got, want) {
		t.Errorf("Blit(%d x %d, %d x %d, %d, %d) = %v, %v, want %v, %v", p.W, p.H, q.W, q.H, x, y, show(got), gotOK, show(want), ok)
	}
	if ok {
		back, _ := Crop(got, from(x, y, x+q.W, y+q.H))
		if back.W != q.W || back.H != q.H || back.Max != p.Max || !slices.Equal(back.Pix, q.Pix) {
			t.Errorf("the crop of %d x %d, blitted at %d, %d, is %v", q.W, q.H, x, y, back)
		}
	}
}

// P4.3, Blit: a pixel that is too great at each place of the plane that is placed.
func TestBlitEveryPixel(t *testing.T) {
	p := filled(4, 4, 9, 1)
	q := filled(3, 3, 255, 9)
	for i := range q.Pix {
		q.Pix[i] = 10
		if got, ok := Blit(p, q, 1, 1); ok || !isZero(got) {
			t.Errorf("Blit with the pixel 10 at %d is %v, %v", i, got, ok)
		}
		q.Pix[i] = 9
	}
	if got, ok := Blit(p, q, 1, 1); !ok || got.Max != 9 {
		t.Error(got, ok)
	}
}

// P4.3: blitting all tiles of a plane into an empty plane gives the plane.
func TestBlitTiles(t *testing.T) {
	for _, p := range valid() {
		for _, side := range []int{1, 3, 16} {
			if side == 1 && len(p.Pix) > 200 {
				continue
			}
			got, ok := New(p.W, p.H, p.Max)
			for y := 0; y < p.H && ok; y += side {
				for x := 0; x < p.W && ok; x += side {
					tile, _ := Crop(p, from(x, y, min(x+side, p.W), min(y+side, p.H)))
					got, ok = Blit(got, tile, x, y)
				}
			}
			if !ok || !same(got, p) {
				t.Errorf("the tiles of %d x %d with the side %d give %v, %v", p.W, p.H, side, show(got), ok)
			}
		}
	}
}

// P4.3, Blit: planes that are not valid, on each side.
func TestBlitInvalidPlane(t *testing.T) {
	one := of(1, 1, 1, 0)
	great := filled(64, 64, api.MaxValue, 0)
	for name, p := range invalid() {
		for _, i := range []int{least, -1, 0, 1, greatest} {
			if got, ok := Blit(p, one, i, i); ok || !isZero(got) {
				t.Errorf("%s: Blit into it at %d is %v, %v", name, i, got, ok)
			}
			if got, ok := Blit(great, p, i, i); ok || !isZero(got) {
				t.Errorf("%s: Blit of it at %d is %v, %v", name, i, got, ok)
			}
			if got, ok := Blit(p, p, i, i); ok || !isZero(got) {
				t.Errorf("%s: Blit into itself at %d is %v, %v", name, i, got, ok)
			}
		}
	}
}

// P4.4.
func TestEqualCases(t *testing.T) {
	p := of(2, 2, 255, 1, 2, 3, 4)
	for _, c := range []struct {
		name string
		a, b api.Plane
		want bool
	}{
		{"the same", p, p, true},
		{"equal", p, of(2, 2, 255, 1, 2, 3, 4), true},
		{"other W", of(1, 2, 255, 1, 2), of(2, 2, 255, 1, 2), false},
		{"other H", of(2, 1, 255, 1, 2), of(2, 2, 255, 1, 2), false},
		{"W and H swapped", of(2, 1, 255, 1, 2), of(1, 2, 255, 1, 2), false},
		{"equal area", p, of(4, 1, 255, 1, 2, 3, 4), false},
		{"other Max", p, of(2, 2, 254, 1, 2, 3, 4), false},
		{"other first pixel", p, of(2, 2, 255, 0, 2, 3, 4), false},
		{"other middle pixel", p, of(2, 2, 255, 1, 2, 4, 4), false},
		{"other last pixel", p, of(2, 2, 255, 1, 2, 3, 5), false},
		{"pixels in another order", p, of(2, 2, 255, 1, 3, 2, 4), false},

		{"zero planes", api.Plane{}, api.Plane{}, true},
		{"nil and empty", api.Plane{}, api.Plane{Pix: []int{}}, true},
		{"nil and empty with a size", of(2, 2, 255), api.Plane{W: 2, H: 2, Max: 255, Pix: []int{}}, true},
		{"zero and another W", api.Plane{}, api.Plane{W: 1}, false},
		{"zero and another H", api.Plane{}, api.Plane{H: 1}, false},
		{"zero and another Max", api.Plane{}, api.Plane{Max: 1}, false},
		{"zero and a pixel", api.Plane{}, of(0, 0, 0, 0), false},
		{"too few pixels, equal", of(2, 2, 255, 1, 2), of(2, 2, 255, 1, 2), true},
		{"too few pixels, not equal", of(2, 2, 255, 1, 2), of(2, 2, 255, 1, 3), false},
		{"valid and too few pixels", p, of(2, 2, 255, 1, 2, 3), false},
		{"valid and too many pixels", p, of(2, 2, 255, 1, 2, 3, 4, 0), false},
		{"too many pixels, the last one differs", of(1, 1, 255, 1, 2), of(1, 1, 255, 1, 3), false},
		{"too many pixels, equal", of(1, 1, 255, 1, 2), of(1, 1, 255, 1, 2), true},
		{"pixels and none", p, of(2, 2, 255), false},
		{"negative size, equal", of(-1, 5, 0, 7), of(-1, 5, 0, 7), true},
		{"negative size, not equal", of(-1, 5, 0, 7), of(1, 5, 0, 7), false},
		{"pixels out of range, equal", of(1, 1, 1, -5), of(1, 1, 1, -5), true},
		{"ends of int, equal", of(least, greatest, least, greatest), of(least, greatest, least, greatest), true},
		{"ends of int, not equal", of(least, greatest, least, greatest), of(least, greatest, least, least), false},
	} {
		if got := Equal(c.a, c.b); got != c.want {
			t.Errorf("%s: Equal(%v, %v) = %v", c.name, c.a, c.b, got)
		}
		if got := Equal(c.b, c.a); got != c.want {
			t.Errorf("%s, the other way: Equal(%v, %v) = %v", c.name, c.b, c.a, got)
		}
	}
}

// P4.4: one pixel that differs, at each place, and planes that are not valid.
func TestEqualEveryPixel(t *testing.T) {
	p := counted(8, 4, 255, 1)
	for i := range p.Pix {
		q := clone(p)
		q.Pix[i]++
		if Equal(p, q) || Equal(q, p) {
			t.Errorf("planes that differ at %d are equal", i)
		}
	}
	for name, q := range invalid() {
		if !Equal(q, clone(q)) {
			t.Errorf("%s: not equal to its copy", name)
		}
		if Equal(p, q) || Equal(q, p) {
			t.Errorf("%s: equal to a valid plane", name)
		}
	}
}

// R2: the arguments stay as they are, also the elements behind Pix that its slice has space for.
func TestArgumentsStay(t *testing.T) {
	spare := func(w, h, first int) api.Plane {
		p := counted(w, h, 255, first)
		p.Pix = append(p.Pix, 77, 78, 79)[:w*h]
		return p
	}
	p, q := spare(4, 3, 1), spare(2, 2, 50)
	Valid(p)
	At(p, wrap, -1, -1)
	At(p, constant(9), -1, -1)
	Crop(p, from(1, 1, 3, 3))
	Crop(p, from(0, 0, 4, 3))
	Crop(p, from(0, 0, 5, 3))
	Blit(p, q, 2, 1)
	Blit(p, p, 0, 0)
	Blit(p, q, 3, 1)
	Equal(p, q)
	if !same(p, counted(4, 3, 255, 1)) || !same(q, counted(2, 2, 255, 50)) {
		t.Error("an argument was changed:", p, q)
	}
	if !slices.Equal(p.Pix[12:15], []int{77, 78, 79}) || !slices.Equal(q.Pix[4:7], []int{77, 78, 79}) {
		t.Error("what lies behind an argument was changed:", p.Pix[:15], q.Pix[:7])
	}
}

// overwrite changes all that can be reached from a result.
func overwrite(p api.Plane) {
	l := p.Pix[:cap(p.Pix)]
	for i := range l {
		l[i] = -1
	}
}

// R2: writing into a result changes neither the arguments nor other results.
func TestResultsAreNew(t *testing.T) {
	p, q := counted(4, 3, 255, 1), counted(2, 2, 255, 50)
	whole := from(0, 0, 4, 3)
	for _, c := range []struct {
		name string
		call func() (api.Plane, bool)
	}{
		{"New", func() (api.Plane, bool) { return New(4, 3, 255) }},
		{"Crop of the whole plane", func() (api.Plane, bool) { return Crop(p, whole) }},
		{"Crop of rows", func() (api.Plane, bool) { return Crop(p, from(0, 1, 4, 3)) }},
		{"Crop of one pixel", func() (api.Plane, bool) { return Crop(p, from(3, 2, 4, 3)) }},
		{"Blit of a part", func() (api.Plane, bool) { return Blit(p, q, 1, 1) }},
		{"Blit of the whole plane", func() (api.Plane, bool) { return Blit(p, p, 0, 0) }},
		{"Blit of equal size", func() (api.Plane, bool) { return Blit(q, counted(2, 2, 255, 9), 0, 0) }},
	} {
		first, ok := c.call()
		second, _ := c.call()
		want := clone(first)
		if !ok {
			t.Errorf("%s is refused", c.name)
		}
		overwrite(first)
		third, _ := c.call()
		if !same(second, want) || !same(third, want) {
			t.Errorf("%s: writing into a result changes another one", c.name)
		}
		if !same(p, counted(4, 3, 255, 1)) || !same(q, counted(2, 2, 255, 50)) {
			t.Fatalf("%s: writing into a result changes an argument", c.name)
		}
	}
}

// R2: arguments are not kept: writing into them changes no result.
func TestArgumentsAreNotKept(t *testing.T) {
	p, q := counted(4, 3, 255, 1), counted(2, 2, 255, 50)
	part, _ := Crop(p, from(0, 0, 4, 2))
	both, _ := Blit(p, q, 0, 0)
	all, _ := Blit(q, q, 0, 0)
	overwrite(p)
	overwrite(q)
	if !same(part, counted(4, 2, 255, 1)) || !same(both, of(4, 3, 255, 50, 51, 3, 4, 52, 53, 7, 8, 9, 10, 11, 12)) || !same(all, counted(2, 2, 255, 50)) {
		t.Error("writing into an argument changes a result:", part, both, all)
	}
}
