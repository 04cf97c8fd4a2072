package convolve

import (
	"fmt"
	"math"
	"math/big"
	"slices"
	"testing"

	"tilefarm/api"
	"tilefarm/plane"
)

const (
	kernel = api.MaxKernel
	most   = api.MaxKernel * api.MaxKernel
	weight = api.MaxWeight
	shift  = api.MaxShift
	value  = api.MaxValue
	acc    = api.MaxAcc
)

var (
	clamp  = api.Edge{Policy: api.BorderClamp}
	mirror = api.Edge{Policy: api.BorderMirror}
	wrap   = api.Edge{Policy: api.BorderWrap}
)

// policies lists edges that are valid for every Max of at least 7.
var policies = []api.Edge{clamp, mirror, wrap, constant(0), constant(7)}

func constant(fill int) api.Edge { return api.Edge{Policy: api.BorderConstant, Fill: fill} }

func of(w, h, max int, pix ...int) api.Plane { return api.Plane{W: w, H: h, Max: max, Pix: pix} }

func from(x0, y0, x1, y1 int) api.Rect { return api.Rect{X0: x0, Y0: y0, X1: x1, Y1: y1} }

func whole(p api.Plane) api.Rect { return from(0, 0, p.W, p.H) }

// counted returns a plane whose pixels are all different: 1, 2, ..
func counted(w, h int) api.Plane {
	p := of(w, h, w*h+7, make([]int, w*h)...)
	for i := range p.Pix {
		p.Pix[i] = i + 1
	}
	return p
}

// alike returns as many weights.
func alike(w, count int) []int { return slices.Repeat([]int{w}, count) }

// mixed returns weights of both signs, and some of 0, for a kernel.
func mixed(kw, kh int) []int {
	l := make([]int, kw*kh)
	for i := range l {
		l[i] = i*7%11 - 4
	}
	return l
}

func isZero(p api.Plane) bool { return p.W == 0 && p.H == 0 && p.Max == 0 && len(p.Pix) == 0 }

// wantPixels fails unless Tile gives a plane with this size, out and these pixels.
func wantPixels(t *testing.T, name string, p api.Plane, e api.Edge, kw, kh int, weights []int, shift, out int, r api.Rect, want []int) {
	t.Helper()
	got, code := Tile(p, e, kw, kh, weights, shift, out, r)
	if code != api.OK || got.W != r.X1-r.X0 || got.H != r.Y1-r.Y0 || got.Max != out || !slices.Equal(got.Pix, want) {
		t.Fatalf("%s: Tile of %v, %v, %d x %d %v, shift %d, out %d, %v = %v, %d, want %v", name, p, e, kw, kh, weights, shift, out, r, got, code, want)
	}
}

// wantError fails unless Tile gives the zero plane and this error.
func wantError(t *testing.T, name string, p api.Plane, e api.Edge, kw, kh int, weights []int, shift, out int, r api.Rect, want api.Code) {
	t.Helper()
	if got, code := Tile(p, e, kw, kh, weights, shift, out, r); code != want || !isZero(got) {
		t.Errorf("%s: Tile = %v, %d, want %d", name, got, code, want)
	}
}

// P9.1: kernels and ordinary arguments.
func TestCheckKernel(t *testing.T) {
	for _, c := range []struct {
		name    string
		kw, kh  int
		weights []int
		want    api.Code
	}{
		{"one weight", 1, 1, []int{1}, api.OK},
		{"a row", 3, 1, []int{1, 2, 1}, api.OK},
		{"a column", 1, 3, []int{1, 2, 1}, api.OK},
		{"both signs", 3, 3, []int{0, -1, 0, -1, 5, -1, 0, -1, 0}, api.OK},
		{"even sides", 4, 2, alike(1, 8), api.OK},
		{"weights of 0", 2, 2, make([]int, 4), api.OK},
		{"kw is MaxKernel", kernel, 1, alike(1, kernel), api.OK},
		{"kh is MaxKernel", 1, kernel, alike(1, kernel), api.OK},
		{"both are MaxKernel", kernel, kernel, alike(1, most), api.OK},
		{"both are MaxKernel, greatest weights", kernel, kernel, alike(weight, most), api.OK},
		{"kw is 0", 0, 1, nil, api.ErrKernel},
		{"kh is 0", 1, 0, nil, api.ErrKernel},
		{"both are 0", 0, 0, nil, api.ErrKernel},
		{"kw is 0, one weight", 0, 1, []int{1}, api.ErrKernel},
		{"kw is -1", -1, 1, []int{1}, api.ErrKernel},
		{"kh is -1", 1, -1, []int{1}, api.ErrKernel},
		{"both are -1, one weight", -1, -1, []int{1}, api.ErrKernel},
		{"both are -3, nine weights", -3, -3, alike(1, 9), api.ErrKernel},
		{"kw beyond MaxKernel", kernel + 1, 1, alike(1, kernel+1), api.ErrKernel},
		{"kh beyond MaxKernel", 1, kernel + 1, alike(1, kernel+1), api.ErrKernel},
		{"kw beyond MaxKernel, few weights", kernel + 1, 8, alike(1, 80), api.ErrKernel},
		{"81 x 1", most, 1, alike(1, most), api.ErrKernel},
		{"1 x 81", 1, most, alike(1, most), api.ErrKernel},
		{"both beyond MaxKernel", kernel + 1, kernel + 1, alike(1, 100), api.ErrKernel},
		{"nil weights", 1, 1, nil, api.ErrKernel},
		{"empty weights", 1, 1, []int{}, api.ErrKernel},
		{"one weight too few", 3, 2, alike(1, 5), api.ErrKernel},
		{"one weight too many", 3, 2, alike(1, 7), api.ErrKernel},
		{"one weight too few for MaxKernel", kernel, kernel, alike(1, most-1), api.ErrKernel},
		{"one weight too many for MaxKernel", kernel, kernel, alike(1, most+1), api.ErrKernel},
		{"kw + kh weights", 3, 2, alike(1, 5), api.ErrKernel},
		{"kw weights", 3, 2, alike(1, 3), api.ErrKernel},
		{"weights of another kernel", 3, 3, alike(1, most), api.ErrKernel},
		{"least ints, a product that wraps to 0", math.MinInt, math.MinInt, nil, api.ErrKernel},
		{"greatest ints, a product that wraps to 1", math.MaxInt, math.MaxInt, []int{1}, api.ErrKernel},
		{"sides that wrap to 1 in 32 bits", 1<<32 + 1, 1, []int{1}, api.ErrKernel},
		{"least int", math.MinInt, 1, []int{1}, api.ErrKernel},
		{"greatest int", 1, math.MaxInt, []int{1}, api.ErrKernel},
	} {
		if got := Check(255, c.kw, c.kh, c.weights, 4, 255); got != c.want {
			t.Errorf("%s: Check = %d, want %d", c.name, got, c.want)
		}
	}
}

// P9.1: every size of a kernel with every number of weights.
func TestCheckCounts(t *testing.T) {
	weights := alike(1, 130)
	for kw := -2; kw <= kernel+2; kw++ {
		for kh := -2; kh <= kernel+2; kh++ {
			for count := range weights {
				want := api.ErrKernel
				if 1 <= kw && kw <= kernel && 1 <= kh && kh <= kernel && count == kw*kh {
					want = api.OK
				}
				if got := Check(255, kw, kh, weights[:count], 0, 255); got != want {
					t.Fatalf("Check of %d x %d with %d weights = %d, want %d", kw, kh, count, got, want)
				}
			}
		}
	}
}

// P9.1: each of the weights, in every place of kernels of several sizes.
func TestCheckWeights(t *testing.T) {
	for _, size := range [][2]int{{1, 1}, {2, 1}, {1, 3}, {4, 4}, {kernel, kernel}} {
		kw, kh := size[0], size[1]
		for place := range kw * kh {
			for _, c := range []struct {
				weight int
				want   api.Code
			}{
				{weight, api.OK}, {weight - 1, api.OK}, {0, api.OK}, {-weight + 1, api.OK}, {-weight, api.OK},
				{weight + 1, api.ErrWeight}, {-weight - 1, api.ErrWeight}, {1 << 16, api.ErrWeight}, {1 << 32, api.ErrWeight},
				{math.MinInt, api.ErrWeight}, {math.MaxInt, api.ErrWeight},
			} {
				l := alike(3, kw*kh)
				l[place] = c.weight
				if got := Check(255, kw, kh, l, 0, 255); got != c.want {
					t.Fatalf("Check of %d x %d with %d at %d = %d, want %d", kw, kh, c.weight, place, got, c.want)
				}
			}
		}
	}
	if got := Check(255, 2, 1, []int{weight + 1, -weight - 1}, 0, 255); got != api.ErrWeight {
		t.Errorf("Check of weights with the sum 0 = %d", got)
	}
}

// P9.1: shifts, max and out.
func TestCheckNumbers(t *testing.T) {
	check := func(name string, n int, got api.Code, valid bool, err api.Code) {
		want := err
		if valid {
			want = api.OK
		}
		if got != want {
			t.Errorf("Check with the %s %d = %d, want %d", name, n, got, want)
		}
	}
	numbers := []int{math.MinInt, -value, -1 << 32, -64, value - 1, value, value + 1, value + 5, 2 * value, 1 << 36, 1 << 44, 1 << 62, math.MaxInt}
	for n := -40; n <= 300; n++ {
		numbers = append(numbers, n)
	}
	for _, n := range numbers {
		check("shift", n, Check(255, 1, 1, []int{1}, n, 255), 0 <= n && n <= shift, api.ErrWeight)
		check("max", n, Check(n, 1, 1, []int{1}, 0, 255), 1 <= n && n <= value, api.ErrRange)
		check("out", n, Check(255, 1, 1, []int{1}, 0, n), 1 <= n && n <= value, api.ErrRange)
	}
}

// P9.1: the least and the greatest sum at and beside -MaxAcc and MaxAcc.
func TestCheckAccumulator(t *testing.T) {
	for _, c := range []struct {
		name        string
		max, kw, kh int
		weights     []int
		want        api.Code
	}{
		{"greatest MaxAcc", value, 1, 1, []int{4096}, api.OK},
		{"greatest MaxAcc by several weights", value, 3, 1, []int{4000, 90, 6}, api.OK},
		{"greatest MaxAcc by most weights", value, kernel, kernel, append(alike(50, most-1), 96), api.OK},
		{"greatest one below MaxAcc", 2954187413, 1, 1, []int{5955}, api.OK},
		{"greatest one above MaxAcc", 2931542417, 1, 1, []int{6001}, api.ErrAccumulator},
		{"greatest one above MaxAcc by several weights", 2931542417, 2, 2, []int{6000, 0, 0, 1}, api.ErrAccumulator},
		{"greatest beyond MaxAcc by one weight more", value, 1, 1, []int{4097}, api.ErrAccumulator},
		{"greatest beyond MaxAcc by most weights", value, kernel, kernel, append(alike(50, most-1), 97), api.ErrAccumulator},
		{"least -MaxAcc", value, 1, 1, []int{-4096}, api.OK},
		{"least one above -MaxAcc", 2954187413, 1, 1, []int{-5955}, api.OK},
		{"least one below -MaxAcc", 2931542417, 1, 1, []int{-6001}, api.ErrAccumulator},
		{"least beyond -MaxAcc by one weight more", value, 1, 1, []int{-4097}, api.ErrAccumulator},
		{"least and greatest at both ends", value, 2, 1, []int{4096, -4096}, api.OK},
		{"only the greatest beyond its end", value, 2, 1, []int{4097, -4096}, api.ErrAccumulator},
		{"only the least beyond its end", value, 1, 2, []int{4096, -4097}, api.ErrAccumulator},
		{"greatest one above MaxAcc, where a negative weight meets 0", 2931542417, 2, 1, []int{6001, -1}, api.ErrAccumulator},
		{"least one below -MaxAcc, where a positive weight meets 0", 2931542417, 2, 1, []int{1, -6001}, api.ErrAccumulator},
		{"a small sum of weights, both beyond their ends", value, 1, 2, []int{weight, -weight}, api.ErrAccumulator},
		{"the last weight goes beyond", value, 2, 2, []int{4095, 1, -5, 1}, api.ErrAccumulator},
		{"greatest weights, small max", 6, kernel, kernel, alike(weight, most), api.OK},
		{"greatest weights, the greatest max", 6628238, kernel, kernel, alike(weight, most), api.OK},
		{"greatest weights, one max more", 6628239, kernel, kernel, alike(weight, most), api.ErrAccumulator},
		{"weights of 0", value, kernel, kernel, make([]int, most), api.OK},
		{"out has no part in the sums", 1, 1, 1, []int{weight}, api.OK},
	} {
		for _, out := range []int{1, 255, c.max, value} {
			for _, s := range []int{0, 1, 10, shift} {
				if got := Check(c.max, c.kw, c.kh, c.weights, s, out); got != c.want {
					t.Errorf("%s: Check with the shift %d and out %d = %d, want %d", c.name, s, out, got, c.want)
				}
			}
		}
	}
}

// P9.1: the order of the errors.
func TestCheckOrder(t *testing.T) {
	for _, c := range []struct {
		name        string
		max, kw, kh int
		weights     []int
		shift, out  int
		want        api.Code
	}{
		{"everything", 0, 0, 0, []int{weight + 1}, -1, 0, api.ErrKernel},
		{"kw and a weight", 255, 0, 1, []int{weight + 1}, 0, 255, api.ErrKernel},
		{"kh and a weight", 255, 1, kernel + 1, alike(weight+1, kernel+1), 0, 255, api.ErrKernel},
		{"the number of the weights and a weight", 255, 2, 1, []int{weight + 1}, 0, 255, api.ErrKernel},
		{"too many weights for any kernel and a weight", 255, kernel, kernel, alike(weight+1, most+1), 0, 255, api.ErrKernel},
		{"no weights and shift", 255, 1, 1, nil, shift + 1, 255, api.ErrKernel},
		{"kw and shift", 255, -1, 1, []int{1}, -1, 255, api.ErrKernel},
		{"kw and max", 0, kernel + 1, 1, alike(1, kernel+1), 0, 255, api.ErrKernel},
		{"kw and out", 255, kernel + 1, 1, alike(1, kernel+1), 0, 0, api.ErrKernel},
		{"the number of the weights and the accumulator", value, 2, 1, []int{weight}, 0, 255, api.ErrKernel},
		{"a weight and shift", 255, 1, 1, []int{weight + 1}, -1, 255, api.ErrWeight},
		{"a weight and max", 0, 1, 1, []int{weight + 1}, 0, 255, api.ErrWeight},
		{"a weight and out", 255, 1, 1, []int{-weight - 1}, 0, value + 1, api.ErrWeight},
		{"a weight and the accumulator", value, 2, 1, []int{weight, weight + 1}, 0, 255, api.ErrWeight},
		{"shift and max", -1, 1, 1, []int{1}, shift + 1, 255, api.ErrWeight},
		{"shift and out", 255, 1, 1, []int{1}, -1, -1, api.ErrWeight},
		{"shift and the accumulator", value, 1, 1, []int{weight}, shift + 1, 255, api.ErrWeight},
		{"max and the accumulator", value + 1, 1, 1, []int{weight}, 0, 255, api.ErrRange},
		{"negative max and the accumulator", math.MinInt, 1, 1, []int{weight}, 0, 255, api.ErrRange},
		{"greatest int as max and the accumulator", math.MaxInt, 1, 1, []int{weight}, 0, 255, api.ErrRange},
		{"out and the accumulator", value, 1, 1, []int{weight}, 0, 0, api.ErrRange},
		{"max and out", 0, 1, 1, []int{1}, 0, 0, api.ErrRange},
	} {
		if got := Check(c.max, c.kw, c.kh, c.weights, c.shift, c.out); got != c.want {
			t.Errorf("%s: Check = %d, want %d", c.name, got, c.want)
		}
	}
}

// exactCheck is P9.1, with integers of any size for the sums.
func exactCheck(max, kw, kh int, weights []int, s, out int) api.Code {
	outside := func(n, least, greatest int) bool { return n < least || n > greatest }
	if outside(kw, 1, 9) || outside(kh, 1, 9) || len(weights) != kw*kh {
		return api.ErrKernel
	}
	if outside(s, 0, 24) || slices.ContainsFunc(weights, func(w int) bool { return outside(w, -32767, 32767) }) {
		return api.ErrWeight
	}
	if outside(max, 1, 1<<32) || outside(out, 1, 1<<32) {
		return api.ErrRange
	}
	positive, negative := new(big.Int), new(big.Int)
	for _, w := range weights {
		product := new(big.Int).Mul(big.NewInt(int64(w)), big.NewInt(int64(max)))
		if w > 0 {
			positive.Add(positive, product)
		} else {
			negative.Add(negative, product)
		}
	}
	if limit := big.NewInt(1 << 44); positive.CmpAbs(limit) > 0 || negative.CmpAbs(limit) > 0 {
		return api.ErrAccumulator
	}
	return api.OK
}

// P9.1: all combinations of numbers at and beside their ends.
func TestCheckIsExact(t *testing.T) {
	sides := []int{math.MinInt, -1, 0, 1, 2, kernel, kernel + 1, math.MaxInt}
	kernels := [][]int{nil, {1}, {4096}, {4097}, {-4097}, {weight + 1}, {4096, -4096}, {4096, -4097}, {1, -weight - 1}, alike(1, 4), alike(1, kernel), alike(2000, kernel+1), alike(weight, 2*kernel), alike(50, most), alike(51, most), alike(-51, most), alike(1, most+1)}
	values := []int{math.MinInt, -1, 0, 1, 255, 1 << 31, value - 1, value, value + 1, math.MaxInt}
	for _, kw := range sides {
		for _, kh := range sides {
			for _, weights := range kernels {
				for _, s := range []int{math.MinInt, -1, 0, 1, shift, shift + 1, math.MaxInt} {
					for _, limit := range values {
						for _, out := range values {
							if got, want := Check(limit, kw, kh, weights, s, out), exactCheck(limit, kw, kh, weights, s, out); got != want {
								t.Fatalf("Check(%d, %d, %d, %v, %d, %d) = %d, want %d", limit, kw, kh, weights, s, out, got, want)
							}
						}
					}
				}
			}
		}
	}
}

// P9.2: example 1.
func TestTileExample(t *testing.T) {
	p := of(3, 1, 255, 0, 8, 0)
	wantPixels(t, "example 1", p, clamp, 3, 1, []int{1, 2, 1}, 2, 255, whole(p), []int{2, 4, 2})
}

// P9.2: the four pixels at a distance of 1 or 2 to both sides, as digits, for every policy at every edge and corner.
func TestTileCorners(t *testing.T) {
	// 1 2 3
	// 4 5 6
	// 7 8 9
	p := of(3, 3, 9, 1, 2, 3, 4, 5, 6, 7, 8, 9)
	near := []int{1000, 0, 100, 0, 0, 0, 10, 0, 1}
	far := make([]int, 25)
	far[0], far[4], far[20], far[24] = 1000, 100, 10, 1
	for _, c := range []struct {
		name      string
		e         api.Edge
		near, far []int
	}{
		{"clamp", clamp,
			[]int{1245, 1346, 2356, 1278, 1379, 2389, 4578, 4679, 5689},
			[]int{1379, 1379, 1379, 1379, 1379, 1379, 1379, 1379, 1379}},
		{"mirror", mirror,
			[]int{1245, 1346, 2356, 1278, 1379, 2389, 4578, 4679, 5689},
			[]int{5689, 4679, 4578, 2389, 1379, 1278, 2356, 1346, 1245}},
		{"wrap", wrap,
			[]int{9865, 7946, 8754, 3298, 1379, 2187, 6532, 4613, 5421},
			[]int{5689, 6497, 4578, 8923, 9731, 7812, 2356, 3164, 1245}},
		{"constant 0", constant(0),
			[]int{5, 46, 50, 208, 1379, 2080, 500, 4600, 5000},
			[]int{9, 0, 70, 0, 0, 0, 300, 0, 1000}},
		{"constant 8", constant(8),
			[]int{8885, 8846, 8858, 8288, 1379, 2888, 8588, 4688, 5888},
			[]int{8889, 8888, 8878, 8888, 8888, 8888, 8388, 8888, 1888}},
	} {
		wantPixels(t, c.name+", near", p, c.e, 3, 3, near, 0, 9999, whole(p), c.near)
		wantPixels(t, c.name+", far", p, c.e, 5, 5, far, 0, 9999, whole(p), c.far)
	}
}

// P9.2: kernels of even sides, and kernels greater than the plane.
func TestTileKernels(t *testing.T) {
	row, column := of(3, 1, 9, 1, 2, 3), of(1, 3, 9, 1, 2, 3)
	pair := of(2, 1, 9, 1, 2)
	for _, c := range []struct {
		name    string
		p       api.Plane
		e       api.Edge
		kw, kh  int
		weights []int
		want    []int
	}{
		{"2 x 1", row, constant(0), 2, 1, []int{10, 1}, []int{1, 12, 23}},
		{"2 x 1, clamp", row, clamp, 2, 1, []int{10, 1}, []int{11, 12, 23}},
		{"1 x 2", column, constant(0), 1, 2, []int{10, 1}, []int{1, 12, 23}},
		{"1 x 2, wrap", column, wrap, 1, 2, []int{10, 1}, []int{31, 12, 23}},
		{"4 x 1", row, constant(0), 4, 1, []int{1000, 100, 10, 1}, []int{12, 123, 1230}},
		{"1 x 4", column, constant(0), 1, 4, []int{1000, 100, 10, 1}, []int{12, 123, 1230}},
		{"1 x 4, mirror", column, mirror, 1, 4, []int{1000, 100, 10, 1}, []int{2112, 1123, 1233}},
		{"2 x 2", of(2, 2, 9, 1, 2, 3, 4), constant(0), 2, 2, []int{1000, 100, 10, 1}, []int{1, 12, 103, 1234}},
		{"2 x 2, wrap", of(2, 2, 9, 1, 2, 3, 4), wrap, 2, 2, []int{1000, 100, 10, 1}, []int{4321, 3412, 2143, 1234}},
		{"3 x 2", row, clamp, 3, 2, []int{9, 9, 9, 100, 10, 1}, []int{112 + 36, 123 + 54, 233 + 72}},
		{"2 x 3", row, constant(0), 2, 3, []int{9, 9, 10, 1, 9, 9}, []int{1, 12, 23}},
		{"9 x 9 on one pixel, clamp", of(1, 1, 9, 5), clamp, 9, 9, alike(1, most), []int{405}},
		{"9 x 9 on one pixel, mirror", of(1, 1, 9, 5), mirror, 9, 9, alike(1, most), []int{405}},
		{"9 x 9 on one pixel, wrap", of(1, 1, 9, 5), wrap, 9, 9, alike(1, most), []int{405}},
		{"9 x 9 on one pixel, constant", of(1, 1, 9, 5), constant(2), 9, 9, alike(1, most), []int{165}},
		{"9 x 1 on two pixels, wrap by 4", pair, wrap, 9, 1, []int{1, 0, 0, 0, 0, 0, 0, 0, 10}, []int{11, 22}},
		{"9 x 1 on two pixels, wrap by 3", pair, wrap, 9, 1, []int{0, 1, 0, 0, 0, 0, 0, 10, 0}, []int{22, 11}},
		{"9 x 1 on two pixels, mirror by 4", pair, mirror, 9, 1, []int{1, 0, 0, 0, 0, 0, 0, 0, 10}, []int{11, 22}},
		{"9 x 1 on two pixels, mirror by 3", pair, mirror, 9, 1, []int{0, 1, 0, 0, 0, 0, 0, 10, 0}, []int{12, 12}},
		{"8 x 1 on two pixels, clamp", pair, clamp, 8, 1, alike(1, 8), []int{11, 12}},
	} {
		wantPixels(t, c.name, c.p, c.e, c.kw, c.kh, c.weights, 0, 9999, whole(c.p), c.want)
	}
}

// P9.2: sums that are negative, rounded and clamped, by kernels of one weight.
func TestTileRounding(t *testing.T) {
	for _, c := range []struct {
		name               string
		pix                []int
		weight, shift, out int
		want               []int
	}{
		{"kernel 1, shift 0", []int{0, 1, 2, 254, 255}, 1, 0, 255, []int{0, 1, 2, 254, 255}},
		{"kernel 1, shift 0, clamped to out", []int{0, 1, 4, 5, 6, 255}, 1, 0, 5, []int{0, 1, 4, 5, 5, 5}},
		{"out 1", []int{0, 1, 2, 255}, 1, 0, 1, []int{0, 1, 1, 1}},
		{"halves", []int{0, 1, 2, 3, 4, 5}, 1, 1, 255, []int{0, 1, 1, 2, 2, 3}},
		{"quarters", []int{0, 1, 2, 3, 4, 5, 6, 7, 8}, 1, 2, 255, []int{0, 0, 1, 1, 1, 1, 2, 2, 2}},
		{"odd weight", []int{0, 1, 2, 3, 4}, 3, 1, 255, []int{0, 2, 3, 5, 6}},
		{"weight 0", []int{0, 1, 255}, 0, 0, 255, []int{0, 0, 0}},
		{"negative", []int{0, 1, 2, 255}, -1, 0, 255, []int{0, 0, 0, 0}},
		{"negative halves", []int{0, 1, 2, 3}, -1, 1, 255, []int{0, 0, 0, 0}},
		{"negative, greatest weight", []int{0, 1, 255}, -weight, shift, 255, []int{0, 0, 0}},
		{"clamped after the shift", []int{15, 16, 20, 22, 24}, 1, 2, 5, []int{4, 4, 5, 5, 5}},
		{"rounded beyond out", []int{9, 10, 11, 12}, 1, 1, 5, []int{5, 5, 5, 5}},
		{"greatest shift", []int{0, 1<<23 - 1, 1 << 23, 1<<24 + 1<<23 - 1, 1<<24 + 1<<23}, 1, shift, 255, []int{0, 0, 1, 1, 2}},
		{"greatest out", []int{0, value - 1, value}, 1, 0, value, []int{0, value - 1, value}},
		{"clamped to the greatest out", []int{1 << 20, value / 4096, value - 1, value}, 4096, 0, value, []int{value, value, value, value}},
		{"greatest sum, shifted", []int{value, value - 1}, 4096, 12, value, []int{value, value - 1}},
		{"greatest sum, greatest shift", []int{value, value / 2, 0}, 4096, shift, value, []int{1 << 20, 1 << 19, 0}},
		{"least sum", []int{value, 0}, -4096, 0, value, []int{0, 0}},
		{"greatest weight", []int{2, 3}, weight, 0, value, []int{65534, 98301}},
	} {
		p := of(len(c.pix), 1, 255, c.pix...)
		if slices.Max(c.pix) > 255 {
			p.Max = value
		}
		if p.Max == value && c.weight*value > acc {
			t.Fatal(c.name)
		}
		wantPixels(t, c.name, p, clamp, 1, 1, []int{c.weight}, c.shift, c.out, whole(p), c.want)
	}
}

// P9.2: sums of several weights whose parts are negative, rounded, clamped or at the limits.
func TestTileSums(t *testing.T) {
	for _, c := range []struct {
		name       string
		p          api.Plane
		e          api.Edge
		kw, kh     int
		weights    []int
		shift, out int
		want       []int
	}{
		{"differences", of(4, 1, 255, 3, 5, 5, 1), constant(0), 2, 1, []int{-1, 1}, 0, 255, []int{3, 2, 0, 0}},
		{"differences, clamped to out", of(4, 1, 255, 3, 5, 5, 1), constant(255), 2, 1, []int{1, -1}, 0, 200, []int{200, 0, 0, 4}},
		{"sums beside 0", of(3, 1, 255, 5, 6, 7), clamp, 3, 1, []int{0, 6, -5}, 0, 255, []int{0, 1, 7}},
		{"a weight rounds alone, the sum does not", of(2, 1, 255, 1, 1), clamp, 2, 1, []int{1, 1}, 2, 255, []int{1, 1}},
		{"halves of a sum", of(3, 1, 255, 1, 2, 2), constant(0), 2, 1, []int{1, 1}, 1, 255, []int{1, 2, 2}},
		{"a negative half between others", of(3, 1, 255, 0, 3, 7), constant(0), 3, 1, []int{-1, 0, 1}, 1, 255, []int{2, 4, 0}},
		{"sharpened", of(3, 3, 255, 9, 9, 9, 9, 20, 9, 9, 9, 9), clamp, 3, 3, []int{0, -1, 0, -1, 5, -1, 0, -1, 0}, 0, 60, []int{9, 0, 9, 0, 60, 0, 9, 0, 9}},
		{"both parts at the limits", of(2, 1, value, value, value), clamp, 2, 1, []int{4096, -4096}, 0, value, []int{0, 0}},
		{"the greatest part first", of(2, 1, value, value, value), clamp, 3, 1, []int{4096, -4095, -1}, 0, value, []int{0, 0}},
		{"the least part first", of(2, 1, value, value, value), clamp, 3, 1, []int{-4096, 4095, 1}, 0, value, []int{0, 0}},
		{"one pixel of the greatest sum", of(2, 1, value, value, 0), wrap, 2, 1, []int{-4096, 4096}, 12, value, []int{value, 0}},
		{"one beside the greatest sum", of(1, 1, 2954187413, 2954187413), clamp, 1, 1, []int{5955}, 24, value, []int{1 << 20}},
		{"most weights", of(2, 2, 6628238, 6628238, 6628238, 6628238, 6628238), mirror, kernel, kernel, alike(weight, most), 24, value, []int{1 << 20, 1 << 20, 1 << 20, 1 << 20}},
		{"Fill is weighted, too", of(1, 1, value, 0), constant(value), 3, 1, []int{1, 0, 2}, 1, value, []int{value}},
		{"Fill at the greatest sum", of(1, 1, value, 0), constant(value), 3, 1, []int{2048, 0, 2048}, 13, value, []int{value / 2}},
	} {
		wantPixels(t, c.name, c.p, c.e, c.kw, c.kh, c.weights, c.shift, c.out, whole(c.p), c.want)
	}
}

// mapped is the definition of chapter 3, step by step: mirrored or repeated until the coordinate is one of the plane.
func mapped(i, n, policy int) (int, bool) {
	for i < 0 || i >= n {
		switch policy {
		case api.BorderClamp:
			i += max(-i, 0) - max(i-n+1, 0)
		case api.BorderMirror:
			if i < 0 {
				i = -1 - i
			} else {
				i = 2*n - 1 - i
			}
		case api.BorderWrap:
			if i < 0 {
				i += n
			} else {
				i -= n
			}
		default:
			return 0, false
		}
	}
	return i, true
}

// pixelAt is the definition of chapter 4.
func pixelAt(p api.Plane, e api.Edge, x, y int) int {
	column, inColumns := mapped(x, p.W, e.Policy)
	row, inRows := mapped(y, p.H, e.Policy)
	if inColumns && inRows {
		return p.Pix[row*p.W+column]
	}
	return e.Fill
}

// exactPixel is the definition of P9.2, with integers of any size.
func exactPixel(p api.Plane, e api.Edge, kw, kh int, weights []int, s, out, x, y int) int {
	sum := new(big.Int)
	for i := range kw {
		for j := range kh {
			pixel := pixelAt(p, e, x+i-kw/2, y+j-kh/2)
			sum.Add(sum, new(big.Int).Mul(big.NewInt(int64(weights[j*kw+i])), big.NewInt(int64(pixel))))
		}
	}
	if s > 0 {
		sum.Add(sum, new(big.Int).Lsh(big.NewInt(1), uint(s-1)))
		// Div rounds down for a positive divisor.
		sum.Div(sum, new(big.Int).Lsh(big.NewInt(1), uint(s)))
	}
	return int(min(max(sum.Int64(), 0), int64(out)))
}

// exact is the tile of the whole plane by the definition.
func exact(p api.Plane, e api.Edge, kw, kh int, weights []int, s, out int) api.Plane {
	want := of(p.W, p.H, out)
	for y := range p.H {
		for x := range p.W {
			want.Pix = append(want.Pix, exactPixel(p, e, kw, kh, weights, s, out, x, y))
		}
	}
	return want
}

// P9.2: kernels of every size with a single weight that is not 0, at each place: they only move the plane.
func TestTileEachWeight(t *testing.T) {
	p := counted(4, 3)
	for kw := 1; kw <= kernel; kw++ {
		for kh := 1; kh <= kernel; kh++ {
			for place := range kw * kh {
				weights := make([]int, kw*kh)
				weights[place] = 1
				right, down := place%kw-kw/2, place/kw-kh/2
				for _, e := range policies {
					var want []int
					for y := range p.H {
						for x := range p.W {
							want = append(want, pixelAt(p, e, x+right, y+down))
						}
					}
					wantPixels(t, "one weight", p, e, kw, kh, weights, 0, p.Max, whole(p), want)
				}
			}
		}
	}
}

// P9.2: kernels of every size and every policy by the definition, on planes smaller and greater than the kernels.
func TestTileIsExact(t *testing.T) {
	for i, p := range []api.Plane{counted(1, 1), counted(2, 1), counted(1, 4), counted(3, 2), counted(5, 5), counted(11, 10)} {
		for kw := 1; kw <= kernel; kw++ {
			for kh := 1; kh <= kernel; kh++ {
				for k, e := range policies {
					s, out := (kw+kh+k+i)%6, 1<<((kw*kh+k)%10)
					want := exact(p, e, kw, kh, mixed(kw, kh), s, out)
					wantPixels(t, "mixed weights", p, e, kw, kh, mixed(kw, kh), s, out, whole(p), want.Pix)
				}
			}
		}
	}
}

// P9.2: planes of the greatest sides and numbers of pixels.
func TestTileGreatestPlanes(t *testing.T) {
	for _, size := range [][2]int{{128, 32}, {32, 128}, {64, 64}, {128, 1}, {1, 128}} {
		p := counted(size[0], size[1])
		for _, e := range policies {
			for _, k := range [][2]int{{kernel, kernel}, {8, 3}} {
				weights := mixed(k[0], k[1])
				want := exact(p, e, k[0], k[1], weights, 3, 4000)
				wantPixels(t, "greatest planes", p, e, k[0], k[1], weights, 3, 4000, whole(p), want.Pix)
			}
		}
	}
}

// P9.2: every shift with pixels up to MaxValue and sums of both signs near the limits.
func TestTileGreatestValues(t *testing.T) {
	p := of(4, 3, value, 0, value, 1, value-1, value/3, 12345678901%value, value, 0, value, value/2+1, 1<<31-1, 987654321)
	for s := range shift + 1 {
		for _, e := range []api.Edge{clamp, mirror, wrap, constant(0), constant(value), constant(value / 7)} {
			for _, weights := range [][]int{{4096, 0, 0, -4096, 0, 0}, {1000, -2000, 3096, 0, -2096, 0}, {7, 11, -13, 5, 3, -1}, alike(682, 6), alike(-682, 6)} {
				for _, out := range []int{1, 1 << 20, value} {
					wantPixels(t, "great values", p, e, 3, 2, weights, s, out, whole(p), exact(p, e, 3, 2, weights, s, out).Pix)
					wantPixels(t, "great values", p, e, 2, 3, weights, s, out, whole(p), exact(p, e, 2, 3, weights, s, out).Pix)
				}
			}
		}
	}
}

// P9.2: rectangles of one pixel, at each edge and of the whole plane.
func TestTileRectangles(t *testing.T) {
	// 1 2 3
	// 4 5 6
	p := of(3, 2, 9, 1, 2, 3, 4, 5, 6)
	digits := []int{100, 10, 1}
	for _, c := range []struct {
		name string
		r    api.Rect
		want []int
	}{
		{"whole", from(0, 0, 3, 2), []int{12, 123, 230, 45, 456, 560}},
		{"first pixel", from(0, 0, 1, 1), []int{12}},
		{"middle pixel", from(1, 0, 2, 1), []int{123}},
		{"right upper pixel", from(2, 0, 3, 1), []int{230}},
		{"left lower pixel", from(0, 1, 1, 2), []int{45}},
		{"last pixel", from(2, 1, 3, 2), []int{560}},
		{"upper edge", from(0, 0, 3, 1), []int{12, 123, 230}},
		{"lower edge", from(0, 1, 3, 2), []int{45, 456, 560}},
		{"left edge", from(0, 0, 1, 2), []int{12, 45}},
		{"right edge", from(2, 0, 3, 2), []int{230, 560}},
		{"middle column", from(1, 0, 2, 2), []int{123, 456}},
		{"right columns", from(1, 0, 3, 2), []int{123, 230, 456, 560}},
	} {
		wantPixels(t, c.name, p, constant(0), 3, 1, digits, 0, 999, c.r, c.want)
	}
}

// P9.2: every rectangle around a small plane. Those inside of it give the crop of the tile of the whole plane: what is
// beside a rectangle is read from the plane, not from the edge.
func TestTileEveryRectangle(t *testing.T) {
	p := counted(5, 4)
	for _, size := range [][2]int{{1, 1}, {3, 3}, {2, 4}, {kernel, 8}} {
		weights := mixed(size[0], size[1])
		for _, e := range policies {
			all, code := Tile(p, e, size[0], size[1], weights, 1, 300, whole(p))
			if code != api.OK {
				t.Fatal(size, e, code)
			}
			everyRectangle(-1, 6, func(r api.Rect) {
				if r.X0 < 0 || r.Y0 < 0 || r.X1 > p.W || r.Y1 > p.H || r.X0 >= r.X1 || r.Y0 >= r.Y1 {
					wantError(t, fmt.Sprint(r), p, e, size[0], size[1], weights, 1, 300, r, api.ErrShape)
					return
				}
				part, _ := plane.Crop(all, r)
				wantPixels(t, "crop", p, e, size[0], size[1], weights, 1, 300, r, part.Pix)
			})
		}
	}
}

// everyRectangle calls f with all coordinates from least to greatest, also those of rectangles that are not valid.
func everyRectangle(least, greatest int, f func(api.Rect)) {
	for x0 := least; x0 <= greatest; x0++ {
		for y0 := least; y0 <= greatest; y0++ {
			for x1 := least; x1 <= greatest; x1++ {
				for y1 := least; y1 <= greatest; y1++ {
					f(from(x0, y0, x1, y1))
				}
			}
		}
	}
}

// P9.2: rectangles that are empty, not valid or not inside the plane.
func TestTileShape(t *testing.T) {
	p := counted(3, 2)
	for _, c := range []struct {
		name string
		r    api.Rect
	}{
		{"empty", api.Rect{}},
		{"no columns", from(1, 0, 1, 2)},
		{"no rows", from(0, 1, 3, 1)},
		{"reversed", from(3, 2, 0, 0)},
		{"reversed columns", from(2, 0, 1, 2)},
		{"beyond the left", from(-1, 0, 2, 2)},
		{"beyond the top", from(0, -1, 3, 1)},
		{"beyond the right", from(0, 0, 4, 2)},
		{"beyond the bottom", from(0, 0, 3, 3)},
		{"beyond all sides", from(-1, -1, 4, 3)},
		{"wholly beyond", from(3, 2, 4, 3)},
		{"wholly before", from(-3, -2, 0, 0)},
		{"swapped sides", from(0, 0, 2, 3)},
		{"beyond MaxCoord", from(0, 0, api.MaxCoord+1, 2)},
		{"ends of int", from(math.MinInt, math.MinInt, math.MaxInt, math.MaxInt)},
		{"other ends of int", from(math.MaxInt, math.MaxInt, math.MinInt, math.MinInt)},
		{"a width that wraps to 1", from(math.MinInt, 0, math.MinInt+1, 1)},
	} {
		for _, e := range policies {
			wantError(t, c.name, p, e, 3, 1, []int{1, 2, 1}, 2, 255, c.r, api.ErrShape)
		}
	}
}

// invalid returns planes that are not valid, by their names.
func invalid() map[string]api.Plane {
	return map[string]api.Plane{
		"zero plane":                 {},
		"no pixels":                  of(2, 1, 255),
		"one pixel too few":          of(2, 2, 255, 1, 2, 3),
		"one pixel too many":         of(2, 1, 255, 1, 2, 3),
		"W 0":                        of(0, 1, 255),
		"H -1":                       of(1, -1, 255, 1),
		"W and H -1":                 of(-1, -1, 255, 1),
		"W beyond MaxSide":           of(api.MaxSide+1, 1, 255, make([]int, api.MaxSide+1)...),
		"H beyond MaxSide":           of(1, api.MaxSide+1, 255, make([]int, api.MaxSide+1)...),
		"more than MaxPixels":        of(128, 33, 255, make([]int, 128*33)...),
		"Max 0":                      of(1, 1, 0, 0),
		"Max beyond MaxValue":        of(1, 1, value+1, 1),
		"pixel below 0":              of(2, 1, 255, 1, -1),
		"pixel above Max":            of(2, 1, 255, 256, 1),
		"pixel least int":            of(2, 1, 255, math.MinInt, 1),
		"a product that wraps to 0":  of(1<<32, 1<<32, 255),
		"a product that wraps to 1":  of(math.MaxInt, math.MaxInt, 255, 1),
		"sides of the least integer": of(math.MinInt, math.MinInt, 255),
	}
}

// P9.2: planes and edges that are not valid.
func TestTileInvalid(t *testing.T) {
	for name, p := range invalid() {
		for _, e := range policies {
			for _, r := range []api.Rect{from(0, 0, 1, 1), whole(p), {}} {
				wantError(t, name, p, e, 1, 1, []int{1}, 0, 255, r, api.ErrInvalid)
			}
		}
	}
	p := of(2, 1, 200, 1, 2)
	for _, c := range []struct {
		name string
		e    api.Edge
		want api.Code
	}{
		{"constant, Max", constant(200), api.OK},
		{"constant, beyond Max", constant(201), api.ErrInvalid},
		{"constant, below 0", constant(-1), api.ErrInvalid},
		{"constant, greatest int", constant(math.MaxInt), api.ErrInvalid},
		{"constant, least int", constant(math.MinInt), api.ErrInvalid},
		{"clamp with Fill", api.Edge{Policy: api.BorderClamp, Fill: 1}, api.ErrInvalid},
		{"mirror with Fill", api.Edge{Policy: api.BorderMirror, Fill: 1}, api.ErrInvalid},
		{"wrap with Fill", api.Edge{Policy: api.BorderWrap, Fill: -1}, api.ErrInvalid},
		{"no policy, -1", api.Edge{Policy: -1}, api.ErrInvalid},
		{"no policy, 4", api.Edge{Policy: 4}, api.ErrInvalid},
		{"no policy, greatest int", api.Edge{Policy: math.MaxInt}, api.ErrInvalid},
	} {
		// The edge has to be valid also where the kernel never reads outside of the plane, and for the Max of p, not out.
		for _, out := range []int{1, 255, value} {
			if c.want == api.OK {
				wantPixels(t, c.name, p, c.e, 1, 1, []int{1}, 0, out, whole(p), []int{1, min(2, out)})
				continue
			}
			wantError(t, c.name, p, c.e, 1, 1, []int{1}, 0, out, whole(p), c.want)
		}
	}
}

// P9.2: the errors of Check for the Max of p, and the order of all errors.
func TestTileOrder(t *testing.T) {
	good, bad := of(2, 1, 255, 1, 2), of(2, 1, 255, 1, 256)
	great := of(2, 1, value, 1, 2)
	noEdge := api.Edge{Policy: 4}
	for _, c := range []struct {
		name       string
		p          api.Plane
		e          api.Edge
		kw, kh     int
		weights    []int
		shift, out int
		r          api.Rect
		want       api.Code
	}{
		{"everything", api.Plane{}, noEdge, 0, 0, nil, -1, 0, api.Rect{}, api.ErrInvalid},
		{"plane and edge", bad, noEdge, 1, 1, []int{1}, 0, 255, whole(good), api.ErrInvalid},
		{"plane and kernel", bad, clamp, 0, 1, nil, 0, 255, whole(good), api.ErrInvalid},
		{"plane and weight", bad, clamp, 1, 1, []int{weight + 1}, 0, 255, whole(good), api.ErrInvalid},
		{"plane and shift", bad, clamp, 1, 1, []int{1}, -1, 255, whole(good), api.ErrInvalid},
		{"plane and out", bad, clamp, 1, 1, []int{1}, 0, 0, whole(good), api.ErrInvalid},
		{"Max 0, which Check refuses, too", of(1, 1, 0, 0), clamp, 1, 1, []int{1}, 0, 255, from(0, 0, 1, 1), api.ErrInvalid},
		{"plane and rectangle", bad, clamp, 1, 1, []int{1}, 0, 255, api.Rect{}, api.ErrInvalid},
		{"edge and kernel", good, noEdge, 1, 1, nil, 0, 255, whole(good), api.ErrInvalid},
		{"edge and weight", good, constant(256), 1, 1, []int{weight + 1}, 0, 255, whole(good), api.ErrInvalid},
		{"edge and out", good, constant(-1), 1, 1, []int{1}, 0, value + 1, whole(good), api.ErrInvalid},
		{"edge and accumulator", great, noEdge, 1, 1, []int{4097}, 0, 255, whole(good), api.ErrInvalid},
		{"edge and rectangle", good, noEdge, 1, 1, []int{1}, 0, 255, from(0, 0, 3, 1), api.ErrInvalid},
		{"kernel", good, clamp, kernel + 1, 1, alike(1, kernel+1), 0, 255, whole(good), api.ErrKernel},
		{"one weight too few", good, clamp, 2, 1, []int{1}, 0, 255, whole(good), api.ErrKernel},
		{"one weight too many", good, clamp, 2, 1, []int{1, 2, 3}, 0, 255, whole(good), api.ErrKernel},
		{"kernel and weight", good, clamp, 2, 1, []int{weight + 1}, 0, 255, whole(good), api.ErrKernel},
		{"kernel and rectangle", good, clamp, 0, 1, []int{1}, 0, 255, api.Rect{}, api.ErrKernel},
		{"weight", good, clamp, 1, 1, []int{-weight - 1}, 0, 255, whole(good), api.ErrWeight},
		{"shift", good, clamp, 1, 1, []int{1}, shift + 1, 255, whole(good), api.ErrWeight},
		{"negative shift", good, clamp, 1, 1, []int{1}, -1, 255, whole(good), api.ErrWeight},
		{"weight and out", good, clamp, 1, 1, []int{weight + 1}, 0, 0, whole(good), api.ErrWeight},
		{"shift and rectangle", good, clamp, 1, 1, []int{1}, -1, 255, from(0, 0, 3, 1), api.ErrWeight},
		{"out 0", good, clamp, 1, 1, []int{1}, 0, 0, whole(good), api.ErrRange},
		{"out beyond MaxValue", good, clamp, 1, 1, []int{1}, 0, value + 1, whole(good), api.ErrRange},
		{"out and accumulator", great, clamp, 1, 1, []int{4097}, 0, 0, whole(good), api.ErrRange},
		{"out and rectangle", good, clamp, 1, 1, []int{1}, 0, -1, api.Rect{}, api.ErrRange},
		{"accumulator", great, clamp, 1, 1, []int{4097}, 0, 255, whole(good), api.ErrAccumulator},
		{"accumulator below", great, clamp, 1, 1, []int{-4097}, shift, value, whole(good), api.ErrAccumulator},
		{"accumulator by Max, not by pixels", of(1, 1, value, 0), clamp, 1, 1, []int{4097}, 0, 255, from(0, 0, 1, 1), api.ErrAccumulator},
		{"accumulator and rectangle", great, clamp, 1, 1, []int{4097}, 0, 255, api.Rect{}, api.ErrAccumulator},
		{"rectangle", good, clamp, 1, 1, []int{1}, 0, 255, api.Rect{}, api.ErrShape},
	} {
		wantError(t, c.name, c.p, c.e, c.kw, c.kh, c.weights, c.shift, c.out, c.r, c.want)
	}
	// The same weight is accepted for a smaller Max, whatever out is.
	wantPixels(t, "no accumulator", good, clamp, 1, 1, []int{4097}, 0, value, whole(good), []int{4097, 8194})
}

// P9.2: the kernel 1 with the shift 0 gives the plane, with its pixels clamped to out.
func TestTileIdentity(t *testing.T) {
	for _, p := range []api.Plane{counted(1, 1), counted(7, 3), counted(128, 32), counted(1, 128), of(2, 1, value, value, value-1)} {
		for _, e := range policies {
			for _, out := range []int{1, 2, 10, 4096, value - 1, value} {
				want := slices.Clone(p.Pix)
				for i := range want {
					want[i] = min(want[i], out)
				}
				wantPixels(t, "identity", p, e, 1, 1, []int{1}, 0, out, whole(p), want)
			}
		}
	}
}

// R2: the pixels and weights of the arguments stay as they are, and results share no memory with them or each other.
func TestArgumentsStay(t *testing.T) {
	for _, e := range policies {
		p := counted(4, 3)
		weights := []int{1, -2, 4, 3, 0, 1}
		pixBefore, weightsBefore := slices.Clone(p.Pix), slices.Clone(weights)
		stay := func() {
			t.Helper()
			if !slices.Equal(p.Pix, pixBefore) || !slices.Equal(weights, weightsBefore) {
				t.Fatalf("%v and %v became %v and %v", pixBefore, weightsBefore, p.Pix, weights)
			}
		}
		Check(p.Max, 3, 2, weights, 1, 255)
		first, _ := Tile(p, e, 3, 2, weights, 1, 255, whole(p))
		stay()
		second, _ := Tile(p, e, 3, 2, weights, 1, 255, whole(p))
		kept := slices.Clone(first.Pix)
		for i := range second.Pix {
			second.Pix[i] = -5
		}
		stay()
		if third, _ := Tile(p, e, 3, 2, weights, 1, 255, whole(p)); !slices.Equal(first.Pix, kept) || !slices.Equal(third.Pix, kept) {
			t.Fatalf("%v became %v and %v", kept, first.Pix, third.Pix)
		}
		same, _ := Tile(p, e, 1, 1, []int{1}, 0, p.Max, whole(p))
		for i := range same.Pix {
			same.Pix[i] = -5
		}
		stay()
	}
}

// R2: elements of the arguments beyond their lengths are neither read nor changed.
func TestCapacity(t *testing.T) {
	pix, weights := []int{1, 2, 77, 77}, []int{10, 1, 88, 88}
	p := of(2, 1, 9, pix[:2]...)
	wantPixels(t, "capacity", p, clamp, 2, 1, weights[:2], 0, 99, whole(p), []int{11, 12})
	if !slices.Equal(pix, []int{1, 2, 77, 77}) || !slices.Equal(weights, []int{10, 1, 88, 88}) {
		t.Error(pix, weights)
	}
	wantError(t, "capacity", p, clamp, 3, 1, weights[:2], 0, 99, whole(p), api.ErrKernel)
}
