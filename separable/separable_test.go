package separable

import (
	"fmt"
	"math"
	"math/big"
	"slices"
	"testing"

	"tilefarm/api"
	"tilefarm/convolve"
	"tilefarm/plane"
)

const (
	most   = api.MaxKernel
	weight = api.MaxWeight
	shift  = api.MaxShift
	value  = api.MaxValue
)

var (
	clamp  = api.Edge{Policy: api.BorderClamp}
	mirror = api.Edge{Policy: api.BorderMirror}
	wrap   = api.Edge{Policy: api.BorderWrap}
	one    = []int{1}
)

// policies lists edges that are valid for every Max of at least 7.
var policies = []api.Edge{clamp, mirror, wrap, constant(0), constant(7)}

// stage is what Check and Tile are told beside the plane, its edge and the rectangle.
type stage struct {
	row, col           []int
	shift, shift2, out int
}

func (s stage) check(max int) api.Code { return Check(max, s.row, s.col, s.shift, s.shift2, s.out) }

func (s stage) tile(p api.Plane, e api.Edge, r api.Rect) (api.Plane, api.Code) {
	return Tile(p, e, s.row, s.col, s.shift, s.shift2, s.out, r)
}

func constant(fill int) api.Edge { return api.Edge{Policy: api.BorderConstant, Fill: fill} }

func of(w, h, max int, pix ...int) api.Plane { return api.Plane{W: w, H: h, Max: max, Pix: pix} }

func from(x0, y0, x1, y1 int) api.Rect { return api.Rect{X0: x0, Y0: y0, X1: x1, Y1: y1} }

func whole(p api.Plane) api.Rect { return from(0, 0, p.W, p.H) }

// counted returns a plane whose pixels are all different: 1, 2, ..
func counted(w, h int) api.Plane {
	p := of(w, h, w*h+7, make([]int, w*h)...)
	for i := range p.Pix {
		p.Pix[i] = i + 1
	}
	return p
}

// alike returns as many weights.
func alike(w, count int) []int { return slices.Repeat([]int{w}, count) }

// mixed returns as many weights of both signs, which differ by the first one.
func mixed(count, first int) []int {
	l := make([]int, count)
	for i := range l {
		l[i] = (i+first)*7%11 - 4
	}
	return l
}

func isZero(p api.Plane) bool { return p.W == 0 && p.H == 0 && p.Max == 0 && len(p.Pix) == 0 }

// wantPixels fails unless Tile gives a plane with the size of r, out and these pixels.
func wantPixels(t *testing.T, name string, p api.Plane, e api.Edge, s stage, r api.Rect, want []int) {
	t.Helper()
	got, code := s.tile(p, e, r)
	if code != api.OK || got.W != r.X1-r.X0 || got.H != r.Y1-r.Y0 || got.Max != s.out || !slices.Equal(got.Pix, want) {
		t.Fatalf("%s: Tile of %v, %v, %v, %v = %v, %d, want %v", name, p, e, s, r, got, code, want)
	}
}

// wantError fails unless Tile gives the zero plane and this error.
func wantError(t *testing.T, name string, p api.Plane, e api.Edge, s stage, r api.Rect, want api.Code) {
	t.Helper()
	if got, code := s.tile(p, e, r); code != want || !isZero(got) {
		t.Errorf("%s: Tile of %v, %v, %v, %v = %v, %d, want %d", name, p, e, s, r, got, code, want)
	}
}

// P10.1: every number of weights in row and in col.
func TestCheckCounts(t *testing.T) {
	weights := alike(1, most*most+2)
	for rows := range weights {
		for cols := range weights {
			want := api.ErrKernel
			if 1 <= rows && rows <= most && 1 <= cols && cols <= most {
				want = api.OK
			}
			if got := Check(255, weights[:rows], weights[:cols], 0, 0, 255); got != want {
				t.Fatalf("Check of %d and %d weights = %d, want %d", rows, cols, got, want)
			}
		}
	}
	for _, c := range []struct {
		name     string
		row, col []int
		want     api.Code
	}{
		{"both nil", nil, nil, api.ErrKernel},
		{"both empty", []int{}, []int{}, api.ErrKernel},
		{"row nil", nil, one, api.ErrKernel},
		{"col nil", one, nil, api.ErrKernel},
		{"row empty", []int{}, one, api.ErrKernel},
		{"col empty", one, []int{}, api.ErrKernel},
		{"one weight each", one, one, api.OK},
		{"MaxKernel greatest weights each", alike(weight, most), alike(1, most), api.OK},
		{"one more greatest weight in row", alike(weight, most+1), alike(1, most), api.ErrKernel},
		{"one more greatest weight in col", alike(1, most), alike(weight, most+1), api.ErrKernel},
		{"weights of 0", make([]int, most), make([]int, most), api.OK},
		{"one weight of 0 each", []int{0}, []int{0}, api.OK},
	} {
		if got := Check(255, c.row, c.col, 0, 0, 255); got != c.want {
			t.Errorf("%s: Check = %d, want %d", c.name, got, c.want)
		}
	}
}

// P10.1: each of the weights, in every place of row and of col.
func TestCheckWeights(t *testing.T) {
	for count := 1; count <= most; count++ {
		for place := range count {
			for _, c := range []struct {
				weight int
				want   api.Code
			}{
				{weight, api.OK}, {weight - 1, api.OK}, {0, api.OK}, {-weight + 1, api.OK}, {-weight, api.OK},
				{weight + 1, api.ErrWeight}, {-weight - 1, api.ErrWeight}, {1 << 16, api.ErrWeight}, {1 << 32, api.ErrWeight},
				{math.MinInt, api.ErrWeight}, {math.MaxInt, api.ErrWeight},
			} {
				l := alike(3, count)
				l[place] = c.weight
				if got := Check(255, l, []int{2, 1}, 0, 0, 255); got != c.want {
					t.Fatalf("Check of a row of %d with %d at %d = %d, want %d", count, c.weight, place, got, c.want)
				}
				if got := Check(255, []int{2, 1}, l, 0, 0, 255); got != c.want {
					t.Fatalf("Check of a col of %d with %d at %d = %d, want %d", count, c.weight, place, got, c.want)
				}
			}
		}
	}
	if got := Check(255, []int{weight + 1, -weight - 1}, one, 0, 0, 255); got != api.ErrWeight {
		t.Errorf("Check of a row with the sum 0 = %d", got)
	}
	if got := Check(255, one, []int{weight + 1, -weight - 1}, 0, 0, 255); got != api.ErrWeight {
		t.Errorf("Check of a col with the sum 0 = %d", got)
	}
	// The weights are limited, their products are not.
	if got := Check(255, []int{weight, -weight}, []int{weight, -weight}, 0, 0, 255); got != api.OK {
		t.Errorf("Check of the greatest weights = %d", got)
	}
}

// P10.1: shifts, max and out.
func TestCheckNumbers(t *testing.T) {
	check := func(name string, n int, got api.Code, valid bool, err api.Code) {
		want := err
		if valid {
			want = api.OK
		}
		if got != want {
			t.Errorf("Check with the %s %d = %d, want %d", name, n, got, want)
		}
	}
	numbers := []int{math.MinInt, -value, -1 << 32, -64, value - 1, value, value + 1, value + 5, 2 * value, 1 << 36, 1 << 44, 1 << 62, math.MaxInt}
	for n := -40; n <= 300; n++ {
		numbers = append(numbers, n)
	}
	for _, n := range numbers {
		check("shift", n, Check(255, one, one, n, 0, 255), 0 <= n && n <= shift, api.ErrWeight)
		check("shift2", n, Check(255, one, one, 0, n, 255), 0 <= n && n <= shift, api.ErrWeight)
		check("shift and shift2", n, Check(255, one, one, n, n, 255), 0 <= n && n <= shift, api.ErrWeight)
		check("max", n, Check(n, one, one, 0, 0, 255), 1 <= n && n <= value, api.ErrRange)
		check("out", n, Check(255, one, one, 0, 0, n), 1 <= n && n <= value, api.ErrRange)
	}
	if got := Check(255, one, one, -1, 1, 255); got != api.ErrWeight {
		t.Errorf("Check of shifts with the sum 0 = %d", got)
	}
}

// P10.1: the bounds of row at and beside -MaxAcc and MaxAcc. The shift makes the span of them small enough for col.
func TestCheckRowAccumulator(t *testing.T) {
	for _, c := range []struct {
		name string
		max  int
		row  []int
		want api.Code
	}{
		{"greatest MaxAcc", value, []int{4096}, api.OK},
		{"greatest MaxAcc by several weights", value, []int{4000, 90, 6}, api.OK},
		{"greatest MaxAcc by most weights", value, append(alike(500, most-1), 96), api.OK},
		{"greatest one below MaxAcc", 2954187413, []int{5955}, api.OK},
		{"greatest one above MaxAcc", 2931542417, []int{6001}, api.ErrAccumulator},
		{"greatest one above MaxAcc by several weights", 2931542417, []int{6000, 0, 0, 1}, api.ErrAccumulator},
		{"greatest beyond MaxAcc by one weight more", value, []int{4097}, api.ErrAccumulator},
		{"greatest beyond MaxAcc by most weights", value, append(alike(500, most-1), 97), api.ErrAccumulator},
		{"least -MaxAcc", value, []int{-4096}, api.OK},
		{"least one above -MaxAcc", 2954187413, []int{-5955}, api.OK},
		{"least one below -MaxAcc", 2931542417, []int{-6001}, api.ErrAccumulator},
		{"least beyond -MaxAcc by one weight more", value, []int{-4097}, api.ErrAccumulator},
		{"least and greatest at both ends", value, []int{4096, -4096}, api.OK},
		{"only the greatest beyond its end", value, []int{4097, -4096}, api.ErrAccumulator},
		{"only the least beyond its end", value, []int{4096, -4097}, api.ErrAccumulator},
		{"greatest one above MaxAcc, where a negative weight meets 0", 2931542417, []int{6001, -1}, api.ErrAccumulator},
		{"least one below -MaxAcc, where a positive weight meets 0", 2931542417, []int{1, -6001}, api.ErrAccumulator},
		{"a small sum of weights, both beyond their ends", value, []int{weight, -weight}, api.ErrAccumulator},
		{"greatest weights, the greatest max", 59654144, alike(weight, most), api.OK},
		{"greatest weights, one max more", 59654145, alike(weight, most), api.ErrAccumulator},
	} {
		for _, col := range [][]int{one, {0}, {-1, 1}, alike(1, most)} {
			for _, out := range []int{1, 255, value} {
				for _, s := range []int{8, 12, shift} {
					for _, s2 := range []int{0, 1, shift} {
						got := Check(c.max, c.row, col, s, s2, out)
						if got != c.want {
							t.Errorf("%s: Check with col %v, the shifts %d and %d, out %d = %d, want %d", c.name, col, s, s2, out, got, c.want)
						}
					}
				}
			}
		}
	}
}

// P10.1: the span of row's bounds at and beside -MaxMid and MaxMid, and the bounds of col over it at and beside -MaxAcc
// and MaxAcc.
func TestCheckColAccumulator(t *testing.T) {
	for _, c := range []struct {
		name     string
		max      int
		row, col []int
		shift    int
		want     api.Code
	}{
		{"span up to MaxMid", value, []int{16}, one, 0, api.OK},
		{"span one below MaxMid", 3616814565, []int{19}, one, 0, api.OK},
		{"span one above MaxMid", 4042322161, []int{17}, one, 0, api.ErrAccumulator},
		{"span one above MaxMid, col 0", 4042322161, []int{17}, []int{0}, 0, api.ErrAccumulator},
		{"span from -MaxMid", value, []int{-16}, one, 0, api.OK},
		{"span one above -MaxMid", 3616814565, []int{-19}, one, 0, api.OK},
		{"span one below -MaxMid", 4042322161, []int{-17}, one, 0, api.ErrAccumulator},
		{"span one below -MaxMid, col 0", 4042322161, []int{-17}, []int{0}, 0, api.ErrAccumulator},
		{"span from -MaxMid to MaxMid", value, []int{16, -16}, one, 0, api.OK},
		{"only the greatest of the span beyond MaxMid", value, []int{17, -16}, one, 0, api.ErrAccumulator},
		{"only the least of the span beyond -MaxMid", value, []int{16, -17}, one, 0, api.ErrAccumulator},
		{"the shift makes the span small enough", value, []int{17}, one, 1, api.OK},
		{"MaxAcc shifted to MaxMid", value, []int{4096}, one, 8, api.OK},
		{"MaxAcc shifted to twice MaxMid", value, []int{4096}, one, 7, api.ErrAccumulator},
		{"-MaxAcc shifted to -MaxMid", value, []int{-4096}, one, 8, api.OK},
		{"-MaxAcc shifted to twice -MaxMid", value, []int{-4096}, one, 7, api.ErrAccumulator},
		{"rounded up at a half to one above MaxMid", 77343249, []int{1777}, one, 1, api.ErrAccumulator},
		{"rounded up at a negative half to -MaxMid", 77343249, []int{-1777}, one, 1, api.OK},
		{"rounded down to MaxMid", 1200340205, []int{229}, one, 2, api.OK},
		{"greatest MaxAcc", value, one, []int{4096}, 0, api.OK},
		{"greatest one below MaxAcc", 2954187413, one, []int{5955}, 0, api.OK},
		{"greatest one above MaxAcc", 2931542417, one, []int{6001}, 0, api.ErrAccumulator},
		{"greatest one above MaxAcc by several weights", 2931542417, one, []int{6000, 0, 1}, 0, api.ErrAccumulator},
		{"greatest MaxAcc over MaxMid", value, []int{16}, []int{256}, 0, api.OK},
		{"greatest beyond MaxAcc over MaxMid", value, []int{16}, []int{257}, 0, api.ErrAccumulator},
		{"least -MaxAcc", value, one, []int{-4096}, 0, api.OK},
		{"least one above -MaxAcc", 2954187413, one, []int{-5955}, 0, api.OK},
		{"least one below -MaxAcc", 2931542417, one, []int{-6001}, 0, api.ErrAccumulator},
		{"negative row, greatest MaxAcc", value, []int{-1}, []int{-4096}, 0, api.OK},
		{"negative row, greatest one above MaxAcc", 2931542417, []int{-1}, []int{-6001}, 0, api.ErrAccumulator},
		{"negative row, least -MaxAcc", value, []int{-1}, []int{4096}, 0, api.OK},
		{"negative row, least one below -MaxAcc", 2931542417, []int{-1}, []int{6001}, 0, api.ErrAccumulator},
		{"both signs, both ends", value, []int{1, -1}, []int{2048, -2048}, 0, api.OK},
		{"both signs, one weight more", value, []int{1, -1}, []int{2048, -2049}, 0, api.ErrAccumulator},
		{"both signs, other order", value, []int{-1, 1}, []int{-2049, 2048}, 0, api.ErrAccumulator},
		{"row rounds up at a half to one above MaxAcc", 1954361611, []int{3}, []int{6001}, 1, api.ErrAccumulator},
		{"row rounds up at a negative half", 1954361611, []int{-3}, []int{6001}, 1, api.OK},
		{"row rounds up at a negative half, negative col", 1954361611, []int{-3}, []int{-6001}, 1, api.OK},
		{"greatest weights, the greatest max", 202, alike(weight, most), alike(weight, most), 0, api.OK},
		{"greatest weights, one max more", 203, alike(weight, most), alike(weight, most), 0, api.ErrAccumulator},
		{"greatest weights, shifted, the greatest max", 6628440, alike(weight, most), alike(weight, most), 15, api.OK},
		{"greatest weights, shifted, one max more", 6628441, alike(weight, most), alike(weight, most), 15, api.ErrAccumulator},
		{"weights of 0", value, make([]int, most), alike(weight, most), 0, api.OK},
		{"weights of 0 in col", value, one, make([]int, most), 0, api.OK},
	} {
		for _, out := range []int{1, 255, c.max, value} {
			for _, s2 := range []int{0, 1, 10, shift} {
				if got := Check(c.max, c.row, c.col, c.shift, s2, out); got != c.want {
					t.Errorf("%s: Check with the shift2 %d and out %d = %d, want %d", c.name, s2, out, got, c.want)
				}
			}
		}
	}
}

// P10.1: the order of the errors.
func TestCheckOrder(t *testing.T) {
	wide, heavy, light := alike(1, most+1), []int{weight + 1}, []int{-weight - 1}
	for _, c := range []struct {
		name string
		max  int
		s    stage
		want api.Code
	}{
		{"everything", 0, stage{nil, nil, -1, -1, 0}, api.ErrKernel},
		{"no row, a weight of col", 255, stage{nil, heavy, 0, 0, 255}, api.ErrKernel},
		{"a weight of row, no col", 255, stage{light, nil, 0, 0, 255}, api.ErrKernel},
		{"row too long, a weight of row", 255, stage{alike(weight+1, most+1), one, 0, 0, 255}, api.ErrKernel},
		{"col too long, a weight of col", 255, stage{one, alike(-weight-1, most+1), 0, 0, 255}, api.ErrKernel},
		{"a weight of row, col too long", 255, stage{heavy, wide, 0, 0, 255}, api.ErrKernel},
		{"no row, shift", 255, stage{nil, one, shift + 1, 0, 255}, api.ErrKernel},
		{"no col, shift2", 255, stage{one, nil, 0, -1, 255}, api.ErrKernel},
		{"row too long, max", 0, stage{wide, one, 0, 0, 255}, api.ErrKernel},
		{"col too long, max", value + 1, stage{one, wide, 0, 0, 255}, api.ErrKernel},
		{"col too long, out", 255, stage{one, wide, 0, 0, 0}, api.ErrKernel},
		{"col too long, row's bounds", value, stage{[]int{weight}, wide, 0, 0, 255}, api.ErrKernel},
		{"row too long, its bounds", value, stage{alike(weight, most+1), one, 0, 0, 255}, api.ErrKernel},
		{"weights of both", 255, stage{heavy, light, 0, 0, 255}, api.ErrWeight},
		{"a weight and max", 0, stage{heavy, one, 0, 0, 255}, api.ErrWeight},
		{"a weight of col and max", value + 1, stage{one, light, 0, 0, 255}, api.ErrWeight},
		{"a weight and out", 255, stage{light, one, 0, 0, value + 1}, api.ErrWeight},
		{"a weight of col and out", 255, stage{one, heavy, 0, 0, -1}, api.ErrWeight},
		{"a weight of row and its bounds", value, stage{[]int{weight, weight + 1}, one, 0, 0, 255}, api.ErrWeight},
		{"a weight of col and row's bounds", value, stage{[]int{weight}, heavy, 0, 0, 255}, api.ErrWeight},
		{"shift and max", -1, stage{one, one, shift + 1, 0, 255}, api.ErrWeight},
		{"shift and out", 255, stage{one, one, -1, 0, 0}, api.ErrWeight},
		{"shift2 and max", value + 1, stage{one, one, 0, shift + 1, 255}, api.ErrWeight},
		{"shift2 and out", 255, stage{one, one, 0, -1, value + 1}, api.ErrWeight},
		{"shift and row's bounds", value, stage{[]int{weight}, one, shift + 1, 0, 255}, api.ErrWeight},
		{"shift2 and row's bounds", value, stage{[]int{weight}, one, 0, shift + 1, 255}, api.ErrWeight},
		{"shift2 and col's bounds", value, stage{one, []int{weight}, 0, -1, 255}, api.ErrWeight},
		{"max and row's bounds", value + 1, stage{[]int{weight}, one, 0, 0, 255}, api.ErrRange},
		{"negative max and row's bounds", math.MinInt, stage{one, one, 0, 0, 255}, api.ErrRange},
		{"greatest int as max and row's bounds", math.MaxInt, stage{one, one, 0, 0, 255}, api.ErrRange},
		{"out and row's bounds", value, stage{[]int{weight}, one, 0, 0, 0}, api.ErrRange},
		{"out and col's bounds", value, stage{one, []int{weight}, 0, 0, value + 1}, api.ErrRange},
		{"max and out", 0, stage{one, one, 0, 0, 0}, api.ErrRange},
		{"row's and col's bounds", value, stage{[]int{weight}, []int{weight}, 0, 0, 255}, api.ErrAccumulator},
	} {
		if got := c.s.check(c.max); got != c.want {
			t.Errorf("%s: Check = %d, want %d", c.name, got, c.want)
		}
	}
}

// exactBounds returns the least and the greatest sum of the weights, each with a number from lo to hi.
func exactBounds(l []int, lo, hi *big.Int) (*big.Int, *big.Int) {
	least, greatest := new(big.Int), new(big.Int)
	for _, w := range l {
		a, b := new(big.Int).Mul(big.NewInt(int64(w)), lo), new(big.Int).Mul(big.NewInt(int64(w)), hi)
		if a.Cmp(b) > 0 {
			a, b = b, a
		}
		least.Add(least, a)
		greatest.Add(greatest, b)
	}
	return least, greatest
}

// exactShift is P7.1, with integers of any size.
func exactShift(n *big.Int, s int) *big.Int {
	if s == 0 {
		return n
	}
	half := new(big.Int).Lsh(big.NewInt(1), uint(s-1))
	// Div rounds down for a positive divisor.
	return half.Div(half.Add(half, n), new(big.Int).Lsh(big.NewInt(1), uint(s)))
}

// exactCheck is P10.1, with integers of any size for the sums.
func exactCheck(max int, s stage) api.Code {
	outside := func(n, least, greatest int) bool { return n < least || n > greatest }
	beyond := func(l []int) bool {
		return slices.ContainsFunc(l, func(w int) bool { return outside(w, -32767, 32767) })
	}
	if outside(len(s.row), 1, 9) || outside(len(s.col), 1, 9) {
		return api.ErrKernel
	}
	if beyond(s.row) || beyond(s.col) || outside(s.shift, 0, 24) || outside(s.shift2, 0, 24) {
		return api.ErrWeight
	}
	if outside(max, 1, 1<<32) || outside(s.out, 1, 1<<32) {
		return api.ErrRange
	}
	acc, mid := big.NewInt(1<<44), big.NewInt(1<<36)
	least, greatest := exactBounds(s.row, new(big.Int), big.NewInt(int64(max)))
	if least.CmpAbs(acc) > 0 || greatest.CmpAbs(acc) > 0 {
		return api.ErrAccumulator
	}
	low, high := exactShift(least, s.shift), exactShift(greatest, s.shift)
	least, greatest = exactBounds(s.col, low, high)
	if low.CmpAbs(mid) > 0 || high.CmpAbs(mid) > 0 || least.CmpAbs(acc) > 0 || greatest.CmpAbs(acc) > 0 {
		return api.ErrAccumulator
	}
	return api.OK
}

// P10.1: all combinations of numbers at and beside their ends.
func TestCheckIsExact(t *testing.T) {
	lists := [][]int{nil, {1}, {-1}, {16}, {17}, {-17}, {3, -5}, {257}, {4096}, {4097}, {-4097}, {weight + 1}, {4096, -4096}, {1, -weight - 1}, alike(weight, most), alike(-455, most), alike(1, most+1)}
	values := []int{math.MinInt, 0, 1, 255, 59654144, 59654145, 1954361611, value, value + 1}
	shifts := []int{math.MinInt, -1, 0, 1, 7, 8, 12, shift, shift + 1, math.MaxInt}
	for _, row := range lists {
		for _, col := range lists {
			for _, a := range shifts {
				for _, b := range shifts {
					for _, max := range values {
						for _, out := range []int{-1, 0, 1, value, value + 1} {
							s := stage{row, col, a, b, out}
							if got, want := s.check(max), exactCheck(max, s); got != want {
								t.Fatalf("Check(%d, %v) = %d, want %d", max, s, got, want)
							}
						}
					}
				}
			}
		}
	}
}

// P10.2: example 1, and the same as a row.
func TestTileExample(t *testing.T) {
	p, q := of(1, 3, 255, 4, 0, 0), of(3, 1, 255, 4, 0, 0)
	wantPixels(t, "example 1", p, mirror, stage{one, []int{1, 2, 1}, 0, 2, 255}, whole(p), []int{3, 1, 0})
	wantPixels(t, "example 1, by the row", q, mirror, stage{[]int{1, 2, 1}, one, 2, 0, 255}, whole(q), []int{3, 1, 0})
	wantPixels(t, "example 1, by the row, shifted behind it", q, mirror, stage{[]int{1, 2, 1}, one, 0, 2, 255}, whole(q), []int{3, 1, 0})
}

// P10.2: the four pixels at a distance of 1 or 2 to both sides, as digits, for every policy at every edge and corner.
func TestTileCorners(t *testing.T) {
	// 1 2 3
	// 4 5 6
	// 7 8 9
	p := of(3, 3, 9, 1, 2, 3, 4, 5, 6, 7, 8, 9)
	near := stage{[]int{10, 0, 1}, []int{100, 0, 1}, 0, 0, 9999}
	far := stage{[]int{10, 0, 0, 0, 1}, []int{100, 0, 0, 0, 1}, 0, 0, 9999}
	for _, c := range []struct {
		name      string
		e         api.Edge
		near, far []int
	}{
		{"clamp", clamp,
			[]int{1245, 1346, 2356, 1278, 1379, 2389, 4578, 4679, 5689},
			[]int{1379, 1379, 1379, 1379, 1379, 1379, 1379, 1379, 1379}},
		{"mirror", mirror,
			[]int{1245, 1346, 2356, 1278, 1379, 2389, 4578, 4679, 5689},
			[]int{5689, 4679, 4578, 2389, 1379, 1278, 2356, 1346, 1245}},
		{"wrap", wrap,
			[]int{9865, 7946, 8754, 3298, 1379, 2187, 6532, 4613, 5421},
			[]int{5689, 6497, 4578, 8923, 9731, 7812, 2356, 3164, 1245}},
		{"constant 0", constant(0),
			[]int{5, 46, 50, 208, 1379, 2080, 500, 4600, 5000},
			[]int{9, 0, 70, 0, 0, 0, 300, 0, 1000}},
		{"constant 8", constant(8),
			[]int{8885, 8846, 8858, 8288, 1379, 2888, 8588, 4688, 5888},
			[]int{8889, 8888, 8878, 8888, 8888, 8888, 8388, 8888, 1888}},
	} {
		// The same numbers, times 16: the first shift divides them again.
		near16, far16 := near, far
		near16.row, near16.shift = []int{160, 0, 16}, 4
		far16.col, far16.shift2 = []int{1600, 0, 0, 0, 16}, 4
		wantPixels(t, c.name+", near", p, c.e, near, whole(p), c.near)
		wantPixels(t, c.name+", far", p, c.e, far, whole(p), c.far)
		wantPixels(t, c.name+", near, shifted", p, c.e, near16, whole(p), c.near)
		wantPixels(t, c.name+", far, shifted", p, c.e, far16, whole(p), c.far)
	}
}

// P10.2: rows and columns of even lengths, and those longer than the plane.
func TestTileLengths(t *testing.T) {
	row, column, square := of(3, 1, 9, 1, 2, 3), of(1, 3, 9, 1, 2, 3), of(2, 2, 9, 1, 2, 3, 4)
	pair, tower, point := of(2, 1, 9, 1, 2), of(1, 2, 9, 1, 2), of(1, 1, 9, 5)
	ends, inner := []int{1, 0, 0, 0, 0, 0, 0, 0, 10}, []int{0, 1, 0, 0, 0, 0, 0, 10, 0}
	for _, c := range []struct {
		name     string
		p        api.Plane
		e        api.Edge
		row, col []int
		want     []int
	}{
		{"2 x 1", row, constant(0), []int{10, 1}, one, []int{1, 12, 23}},
		{"2 x 1, clamp", row, clamp, []int{10, 1}, one, []int{11, 12, 23}},
		{"1 x 2", column, constant(0), one, []int{10, 1}, []int{1, 12, 23}},
		{"1 x 2, wrap", column, wrap, one, []int{10, 1}, []int{31, 12, 23}},
		{"4 x 1", row, constant(0), []int{1000, 100, 10, 1}, one, []int{12, 123, 1230}},
		{"1 x 4", column, constant(0), one, []int{1000, 100, 10, 1}, []int{12, 123, 1230}},
		{"1 x 4, mirror", column, mirror, one, []int{1000, 100, 10, 1}, []int{2112, 1123, 1233}},
		{"2 x 2", square, constant(0), []int{10, 1}, []int{100, 1}, []int{1, 12, 103, 1234}},
		{"2 x 2, wrap", square, wrap, []int{10, 1}, []int{100, 1}, []int{4321, 3412, 2143, 1234}},
		{"3 x 2", row, clamp, []int{100, 10, 1}, []int{0, 2}, []int{224, 246, 466}},
		{"2 x 3", column, constant(0), []int{7, 1}, []int{100, 10, 1}, []int{12, 123, 230}},
		{"2 x 3, mirror", square, mirror, []int{1, 1}, []int{100, 10, 1}, []int{2 * 113, 3*111 + 4, 2 * 133, 300 + 77}},
		{"9 x 9 on one pixel, clamp", point, clamp, alike(1, most), alike(1, most), []int{405}},
		{"9 x 9 on one pixel, mirror", point, mirror, alike(1, most), alike(1, most), []int{405}},
		{"9 x 9 on one pixel, wrap", point, wrap, alike(1, most), alike(1, most), []int{405}},
		{"9 x 9 on one pixel, constant", point, constant(2), alike(1, most), alike(1, most), []int{165}},
		{"8 x 9 on one pixel, constant", point, constant(2), alike(1, 8), alike(1, most), []int{147}},
		{"9 x 1 on two pixels, wrap by 4", pair, wrap, ends, one, []int{11, 22}},
		{"9 x 1 on two pixels, wrap by 3", pair, wrap, inner, one, []int{22, 11}},
		{"9 x 1 on two pixels, mirror by 4", pair, mirror, ends, one, []int{11, 22}},
		{"9 x 1 on two pixels, mirror by 3", pair, mirror, inner, one, []int{12, 12}},
		{"1 x 9 on two pixels, wrap by 4", tower, wrap, one, ends, []int{11, 22}},
		{"1 x 9 on two pixels, wrap by 3", tower, wrap, one, inner, []int{22, 11}},
		{"1 x 9 on two pixels, mirror by 4", tower, mirror, one, ends, []int{11, 22}},
		{"1 x 9 on two pixels, mirror by 3", tower, mirror, one, inner, []int{12, 12}},
		{"8 x 1 on two pixels, clamp", pair, clamp, alike(1, 8), one, []int{11, 12}},
		{"1 x 8 on two pixels, clamp", tower, clamp, one, alike(1, 8), []int{11, 12}},
		{"1 x 8 on two pixels, constant", tower, constant(9), one, []int{0, 0, 0, 100, 10, 1, 0, 0}, []int{912, 129}},
	} {
		wantPixels(t, c.name, c.p, c.e, stage{c.row, c.col, 0, 0, 9999}, whole(c.p), c.want)
	}
}

// P10.2: numbers between the row and the column that are negative, beyond Max, rounded, and outside of the plane.
func TestTileBetween(t *testing.T) {
	ramp := of(6, 1, 255, 0, 1, 2, 3, 4, 5)
	for _, c := range []struct {
		name string
		p    api.Plane
		e    api.Edge
		s    stage
		want []int
	}{
		{"negative", ramp, clamp, stage{[]int{-1}, []int{-1}, 0, 0, 255}, []int{0, 1, 2, 3, 4, 5}},
		{"negative, minus less", ramp, clamp, stage{[]int{-1}, []int{1, -3, 1}, 0, 0, 255}, []int{0, 1, 2, 3, 4, 5}},
		{"negative at one end", of(3, 1, 255, 5, 1, 3), constant(0), stage{[]int{-1, 1}, []int{-1}, 0, 0, 255}, []int{0, 4, 0}},
		{"the greatest pixel, negative", of(1, 1, value, value), clamp, stage{[]int{-16}, []int{-1}, 0, 4, value}, []int{value}},
		{"beyond Max", of(2, 1, 255, 255, 200), clamp, stage{[]int{2}, one, 0, 1, 255}, []int{255, 200}},
		{"beyond Max and out", of(2, 1, 9, 9, 8), clamp, stage{[]int{weight}, []int{1, 1}, 0, 16, 9}, []int{9, 8}},
		{"beyond MaxValue", of(2, 1, value, value, 5), clamp, stage{[]int{16}, one, 0, 4, value}, []int{value, 5}},
		{"beyond Max, taken away again", of(1, 2, 9, 9, 7), clamp, stage{[]int{1000}, []int{-1, 0, 1}, 0, 0, value}, []int{0, 0}},
		{"beyond Max, a difference of rows", of(1, 2, 9, 7, 9), clamp, stage{[]int{1000}, []int{-1, 0, 1}, 0, 0, value}, []int{2000, 2000}},
		{"halves", ramp, clamp, stage{one, one, 1, 0, 255}, []int{0, 1, 1, 2, 2, 3}},
		{"halves, doubled again", ramp, clamp, stage{one, []int{2}, 1, 0, 255}, []int{0, 2, 2, 4, 4, 6}},
		{"halves of halves", ramp, clamp, stage{one, one, 1, 1, 255}, []int{0, 1, 1, 1, 1, 2}},
		{"negative halves", ramp, clamp, stage{[]int{-1}, []int{-1}, 1, 0, 255}, []int{0, 0, 1, 1, 2, 2}},
		{"negative halves of quarters", ramp, clamp, stage{[]int{-1}, []int{-4}, 2, 0, 255}, []int{0, 0, 0, 4, 4, 4}},
		{"each row is rounded alone", of(1, 3, 255, 1, 1, 1), clamp, stage{one, alike(1, 3), 1, 0, 255}, []int{3, 3, 3}},
		{"each row is rounded to 0 alone", of(1, 3, 255, 1, 1, 1), clamp, stage{one, alike(1, 3), 2, 0, 255}, []int{0, 0, 0}},
		{"pixels of a row are rounded together", of(3, 1, 255, 1, 1, 1), clamp, stage{alike(1, 3), one, 2, 0, 255}, []int{1, 1, 1}},
		{"the greatest shift", of(3, 1, 1<<25, 1<<23-1, 1<<23, 1<<24+1<<23), clamp, stage{one, []int{5}, shift, 0, 255}, []int{0, 5, 10}},
		{"the greatest shift, negative", of(3, 1, 1<<25, 1<<23, 1<<23+1, 1<<24+1<<23+1), clamp, stage{[]int{-1}, []int{-5}, shift, 0, 255}, []int{0, 5, 10}},
		{"rows of Fill are weighted, too", of(1, 1, 9, 5), constant(2), stage{alike(1, 3), alike(1, 3), 0, 0, 255}, []int{21}},
		{"rows of Fill are rounded, too", of(1, 1, 9, 5), constant(2), stage{alike(1, 3), alike(1, 3), 2, 0, 255}, []int{6}},
		{"rows of Fill are negative", of(1, 1, 9, 5), constant(2), stage{[]int{-3}, []int{-1, 0, 0}, 0, 0, 255}, []int{6}},
		{"rows of Fill beyond Max", of(1, 1, 9, 5), constant(9), stage{[]int{100}, []int{0, 0, 1}, 0, 0, value}, []int{900}},
		{"beside a row inside of the plane lies Fill", of(1, 1, 9, 5), constant(2), stage{[]int{100, 10, 1}, one, 0, 0, 255}, []int{252}},
	} {
		wantPixels(t, c.name, c.p, c.e, c.s, whole(c.p), c.want)
	}
}

// P10.2: results that are negative, rounded and clamped.
func TestTileRounding(t *testing.T) {
	for _, c := range []struct {
		name               string
		pix                []int
		weight, shift, out int
		want               []int
	}{
		{"weight 1, shift 0", []int{0, 1, 2, 254, 255}, 1, 0, 255, []int{0, 1, 2, 254, 255}},
		{"weight 1, shift 0, clamped to out", []int{0, 1, 4, 5, 6, 255}, 1, 0, 5, []int{0, 1, 4, 5, 5, 5}},
		{"out 1", []int{0, 1, 2, 255}, 1, 0, 1, []int{0, 1, 1, 1}},
		{"halves", []int{0, 1, 2, 3, 4, 5}, 1, 1, 255, []int{0, 1, 1, 2, 2, 3}},
		{"quarters", []int{0, 1, 2, 3, 4, 5, 6, 7, 8}, 1, 2, 255, []int{0, 0, 1, 1, 1, 1, 2, 2, 2}},
		{"odd weight", []int{0, 1, 2, 3, 4}, 3, 1, 255, []int{0, 2, 3, 5, 6}},
		{"weight 0", []int{0, 1, 255}, 0, 0, 255, []int{0, 0, 0}},
		{"negative", []int{0, 1, 2, 255}, -1, 0, 255, []int{0, 0, 0, 0}},
		{"negative halves", []int{0, 1, 2, 3}, -1, 1, 255, []int{0, 0, 0, 0}},
		{"negative, greatest weight", []int{0, 1, 255}, -weight, shift, 255, []int{0, 0, 0}},
		{"clamped after the shift", []int{15, 16, 20, 22, 24}, 1, 2, 5, []int{4, 4, 5, 5, 5}},
		{"rounded beyond out", []int{9, 10, 11, 12}, 1, 1, 5, []int{5, 5, 5, 5}},
		{"greatest shift", []int{0, 1<<23 - 1, 1 << 23, 1<<24 + 1<<23 - 1, 1<<24 + 1<<23}, 1, shift, 255, []int{0, 0, 1, 1, 2}},
		{"greatest out", []int{0, value - 1, value}, 1, 0, value, []int{0, value - 1, value}},
		{"clamped to the greatest out", []int{1 << 20, value / 4096, value - 1, value}, 4096, 0, value, []int{value, value, value, value}},
		{"greatest sum, shifted", []int{value, value - 1}, 4096, 12, value, []int{value, value - 1}},
		{"greatest sum, greatest shift", []int{value, value / 2, 0}, 4096, shift, value, []int{1 << 20, 1 << 19, 0}},
		{"least sum", []int{value, 0}, -4096, 0, value, []int{0, 0}},
		{"greatest weight", []int{2, 3}, weight, 0, value, []int{65534, 98301}},
	} {
		p := of(len(c.pix), 1, 255, c.pix...)
		if slices.Max(c.pix) > 255 {
			p.Max = value
		}
		wantPixels(t, c.name, p, clamp, stage{one, []int{c.weight}, 0, c.shift, c.out}, whole(p), c.want)
		// The other sign twice is the same sum.
		wantPixels(t, c.name+", two signs", p, clamp, stage{[]int{-1}, []int{-c.weight}, 0, c.shift, c.out}, whole(p), c.want)
	}
}

// P10.2: sums at the limits, and sums whose parts are beside them.
func TestTileSums(t *testing.T) {
	great := of(2, 2, value, value, value, value, value)
	for _, c := range []struct {
		name string
		p    api.Plane
		e    api.Edge
		s    stage
		want []int
	}{
		{"row at both limits", great, clamp, stage{[]int{4096, -4096}, one, 12, 0, value}, []int{0, 0, 0, 0}},
		{"row at the greatest limit", great, clamp, stage{[]int{2048, 2048}, one, 12, 0, value}, alike(value, 4)},
		{"row at the least limit, col negative", great, clamp, stage{[]int{-2048, -2048}, []int{-1}, 12, 0, value}, alike(value, 4)},
		{"row and col at the greatest limits", great, clamp, stage{[]int{4096}, []int{256}, 8, 12, value}, alike(value, 4)},
		{"row and col at the least limits", great, clamp, stage{[]int{-4096}, []int{-256}, 8, 12, value}, alike(value, 4)},
		{"col at both limits", great, clamp, stage{one, []int{4096, -4096}, 0, 0, value}, alike(0, 4)},
		{"col at both limits, one pixel", of(1, 2, value, 0, value), constant(0), stage{one, []int{-4096, 4096}, 0, 12, value}, []int{0, value}},
		{"the greatest part first", great, clamp, stage{one, []int{4096, -4095, -1}, 0, 0, value}, alike(0, 4)},
		{"the least part first", great, clamp, stage{one, []int{-4096, 4095, 1}, 0, 0, value}, alike(0, 4)},
		{"one beside the greatest sum", of(1, 1, 2954187413, 2954187413), clamp, stage{one, []int{5955}, 0, 24, value}, []int{1 << 20}},
		{"one beside the greatest sum of row", of(1, 1, 2954187413, 2954187413), clamp, stage{[]int{5955}, one, 24, 0, value}, []int{1 << 20}},
		{"most of the greatest weights", of(1, 2, 6, 6, 5), wrap, stage{alike(weight, most), alike(weight, most), 0, 24, value}, []int{exactly(4*5+5*6, 9), exactly(4*6+5*5, 9)}},
		{"products beyond MaxWeight", of(1, 1, 255, 200), clamp, stage{[]int{weight}, []int{weight}, 0, 15, value}, []int{(weight*weight*200 + 1<<14) >> 15}},
		{"Fill is weighted, too", of(1, 1, value, 0), constant(value), stage{[]int{1, 0, 1}, []int{0, 1, 0}, 0, 1, value}, []int{value}},
		{"Fill at the greatest sum", of(1, 1, value, 0), constant(value), stage{one, []int{2048, 0, 2048}, 0, 13, value}, []int{value / 2}},
	} {
		wantPixels(t, c.name, c.p, c.e, c.s, whole(c.p), c.want)
	}
}

// exactly returns a sum of pixels, each repeated by the row and weighted by the greatest weight twice, shifted by 24.
func exactly(sum, repeated int) int {
	return (sum*repeated*weight*weight + 1<<23) >> 24
}

// mapped is the definition of chapter 3, step by step: mirrored or repeated until the coordinate is one of the plane.
func mapped(i, n, policy int) (int, bool) {
	for i < 0 || i >= n {
		switch policy {
		case api.BorderClamp:
			i += max(-i, 0) - max(i-n+1, 0)
		case api.BorderMirror:
			if i < 0 {
				i = -1 - i
			} else {
				i = 2*n - 1 - i
			}
		case api.BorderWrap:
			if i < 0 {
				i += n
			} else {
				i -= n
			}
		default:
			return 0, false
		}
	}
	return i, true
}

// pixelAt is the definition of chapter 4.
func pixelAt(p api.Plane, e api.Edge, x, y int) int {
	column, inColumns := mapped(x, p.W, e.Policy)
	row, inRows := mapped(y, p.H, e.Policy)
	if inColumns && inRows {
		return p.Pix[row*p.W+column]
	}
	return e.Fill
}

// exactSum returns the sum of the weights, each multiplied by its number, with integers of any size.
func exactSum(weights []int, number func(i int) *big.Int) *big.Int {
	sum := new(big.Int)
	for i, w := range weights {
		sum.Add(sum, new(big.Int).Mul(big.NewInt(int64(w)), number(i)))
	}
	return sum
}

// exact returns the pixels of the whole plane by the definition, with integers of any size.
func exact(p api.Plane, e api.Edge, s stage) []int {
	type point struct{ x, y int }
	known := map[point]*big.Int{}
	h := func(x, y int) *big.Int {
		if known[point{x, y}] == nil {
			known[point{x, y}] = exactShift(exactSum(s.row, func(i int) *big.Int {
				return big.NewInt(int64(pixelAt(p, e, x+i-len(s.row)/2, y)))
			}), s.shift)
		}
		return known[point{x, y}]
	}
	var pix []int
	for y := range p.H {
		for x := range p.W {
			result := exactShift(exactSum(s.col, func(j int) *big.Int { return h(x, y+j-len(s.col)/2) }), s.shift2)
			pix = append(pix, int(min(max(result.Int64(), 0), int64(s.out))))
		}
	}
	return pix
}

// P10.2: lists of every length with a single weight that is not 0, at each place: they only move the plane.
func TestTileEachWeight(t *testing.T) {
	p := counted(4, 3)
	for rows := 1; rows <= most; rows++ {
		for cols := 1; cols <= most; cols++ {
			for i := range rows {
				for j := range cols {
					row, col := make([]int, rows), make([]int, cols)
					row[i], col[j] = 1, 1
					for _, e := range policies {
						var want []int
						for y := range p.H {
							for x := range p.W {
								want = append(want, pixelAt(p, e, x+i-rows/2, y+j-cols/2))
							}
						}
						wantPixels(t, "one weight", p, e, stage{row, col, 0, 0, p.Max}, whole(p), want)
					}
				}
			}
		}
	}
}

// P10.2: lists of every length and every policy by the definition, on planes smaller and greater than the lists.
func TestTileIsExact(t *testing.T) {
	for i, p := range []api.Plane{counted(1, 1), counted(2, 1), counted(1, 4), counted(3, 2), counted(5, 5), counted(11, 10)} {
		for rows := 1; rows <= most; rows++ {
			for cols := 1; cols <= most; cols++ {
				for k, e := range policies {
					s := stage{mixed(rows, k), mixed(cols, i+2), (rows + cols + k + i) % 6, (rows + 2*cols + k) % 5, 1 << ((rows*cols + k) % 10)}
					wantPixels(t, "mixed weights", p, e, s, whole(p), exact(p, e, s))
				}
			}
		}
	}
}

// P10.2: planes of the greatest sides and numbers of pixels.
func TestTileGreatestPlanes(t *testing.T) {
	for _, size := range [][2]int{{128, 32}, {32, 128}, {64, 64}, {128, 1}, {1, 128}} {
		p := counted(size[0], size[1])
		for _, e := range policies {
			for _, s := range []stage{{mixed(most, 0), mixed(most, 4), 3, 2, 4000}, {mixed(8, 1), mixed(3, 5), 1, 3, 4000}} {
				wantPixels(t, "greatest planes", p, e, s, whole(p), exact(p, e, s))
			}
		}
	}
}

// P10.2: all shifts with pixels up to MaxValue and sums of both signs near the limits.
func TestTileGreatestValues(t *testing.T) {
	p := of(4, 3, value, 0, value, 1, value-1, value/3, 12345678901%value, value, 0, value, value/2+1, 1<<31-1, 987654321)
	lists := [][]int{{1}, {-3, 5}, {16, -16}, {7, -2, -1, 4}, {2048, -4096, 2000}, {1000, -1048, 3096, -2096}, alike(-455, 9)}
	tiles := 0
	for a := 0; a <= shift; a += 2 {
		for b := 0; b <= shift; b += 3 {
			for i, row := range lists {
				for j, col := range lists {
					e := []api.Edge{clamp, mirror, wrap, constant(0), constant(value), constant(value / 7)}[(a/2+b+i+j)%6]
					s := stage{row, col, a, b, []int{1, 1 << 20, value}[(i+j)%3]}
					if exactCheck(value, s) != api.OK {
						wantError(t, "great values", p, e, s, whole(p), api.ErrAccumulator)
						continue
					}
					tiles++
					wantPixels(t, "great values", p, e, s, whole(p), exact(p, e, s))
				}
			}
		}
	}
	if tiles < 2000 {
		t.Errorf("only %d tiles", tiles)
	}
}

// P10.2: rectangles of one pixel, at each edge and of the whole plane.
func TestTileRectangles(t *testing.T) {
	// 1 2 3
	// 4 5 6
	p := of(3, 2, 9, 1, 2, 3, 4, 5, 6)
	flat := stage{[]int{100, 10, 1}, one, 0, 0, 9999}
	upright := stage{one, []int{100, 10, 1}, 0, 0, 9999}
	for _, c := range []struct {
		name          string
		r             api.Rect
		flat, upright []int
	}{
		{"whole", from(0, 0, 3, 2), []int{12, 123, 230, 45, 456, 560}, []int{14, 25, 36, 140, 250, 360}},
		{"first pixel", from(0, 0, 1, 1), []int{12}, []int{14}},
		{"middle pixel", from(1, 0, 2, 1), []int{123}, []int{25}},
		{"right upper pixel", from(2, 0, 3, 1), []int{230}, []int{36}},
		{"left lower pixel", from(0, 1, 1, 2), []int{45}, []int{140}},
		{"last pixel", from(2, 1, 3, 2), []int{560}, []int{360}},
		{"upper edge", from(0, 0, 3, 1), []int{12, 123, 230}, []int{14, 25, 36}},
		{"lower edge", from(0, 1, 3, 2), []int{45, 456, 560}, []int{140, 250, 360}},
		{"left edge", from(0, 0, 1, 2), []int{12, 45}, []int{14, 140}},
		{"right edge", from(2, 0, 3, 2), []int{230, 560}, []int{36, 360}},
		{"middle column", from(1, 0, 2, 2), []int{123, 456}, []int{25, 250}},
		{"right columns", from(1, 0, 3, 2), []int{123, 230, 456, 560}, []int{25, 36, 250, 360}},
	} {
		wantPixels(t, c.name, p, constant(0), flat, c.r, c.flat)
		wantPixels(t, c.name, p, constant(0), upright, c.r, c.upright)
	}
}

// P10.2: every rectangle around a small plane. Those inside of it give the crop of the tile of the whole plane: what is
// beside a rectangle is read from the plane, not from the edge.
func TestTileEveryRectangle(t *testing.T) {
	p := counted(5, 4)
	for _, s := range []stage{
		{one, one, 0, 0, 300}, {mixed(3, 0), mixed(3, 1), 1, 1, 300}, {mixed(2, 2), mixed(4, 3), 0, 2, 300}, {mixed(most, 0), mixed(8, 2), 2, 1, 300},
	} {
		for _, e := range policies {
			all, code := s.tile(p, e, whole(p))
			if code != api.OK {
				t.Fatal(s, e, code)
			}
			everyRectangle(-1, 6, func(r api.Rect) {
				if r.X0 < 0 || r.Y0 < 0 || r.X1 > p.W || r.Y1 > p.H || r.X0 >= r.X1 || r.Y0 >= r.Y1 {
					wantError(t, fmt.Sprint(r), p, e, s, r, api.ErrShape)
					return
				}
				part, _ := plane.Crop(all, r)
				wantPixels(t, "crop", p, e, s, r, part.Pix)
			})
		}
	}
}

// everyRectangle calls f with all coordinates from least to greatest, also those of rectangles that are not valid.
func everyRectangle(least, greatest int, f func(api.Rect)) {
	for x0 := least; x0 <= greatest; x0++ {
		for y0 := least; y0 <= greatest; y0++ {
			for x1 := least; x1 <= greatest; x1++ {
				for y1 := least; y1 <= greatest; y1++ {
					f(from(x0, y0, x1, y1))
				}
			}
		}
	}
}

// P10.2: rectangles that are empty, not valid or not inside the plane.
func TestTileShape(t *testing.T) {
	p := counted(3, 2)
	for _, c := range []struct {
		name string
		r    api.Rect
	}{
		{"empty", api.Rect{}},
		{"no columns", from(1, 0, 1, 2)},
		{"no rows", from(0, 1, 3, 1)},
		{"reversed", from(3, 2, 0, 0)},
		{"reversed columns", from(2, 0, 1, 2)},
		{"beyond the left", from(-1, 0, 2, 2)},
		{"beyond the top", from(0, -1, 3, 1)},
		{"beyond the right", from(0, 0, 4, 2)},
		{"beyond the bottom", from(0, 0, 3, 3)},
		{"beyond all sides", from(-1, -1, 4, 3)},
		{"wholly beyond", from(3, 2, 4, 3)},
		{"wholly before", from(-3, -2, 0, 0)},
		{"swapped sides", from(0, 0, 2, 3)},
		{"beyond MaxCoord", from(0, 0, api.MaxCoord+1, 2)},
		{"ends of int", from(math.MinInt, math.MinInt, math.MaxInt, math.MaxInt)},
		{"other ends of int", from(math.MaxInt, math.MaxInt, math.MinInt, math.MinInt)},
		{"a width that wraps to 1", from(math.MinInt, 0, math.MinInt+1, 1)},
	} {
		for _, e := range policies {
			wantError(t, c.name, p, e, stage{[]int{1, 2, 1}, []int{3, 1}, 2, 2, 255}, c.r, api.ErrShape)
		}
	}
}

// invalid returns planes that are not valid, by their names.
func invalid() map[string]api.Plane {
	return map[string]api.Plane{
		"zero plane":                 {},
		"no pixels":                  of(2, 1, 255),
		"one pixel too few":          of(2, 2, 255, 1, 2, 3),
		"one pixel too many":         of(2, 1, 255, 1, 2, 3),
		"W 0":                        of(0, 1, 255),
		"H -1":                       of(1, -1, 255, 1),
		"W and H -1":                 of(-1, -1, 255, 1),
		"W beyond MaxSide":           of(api.MaxSide+1, 1, 255, make([]int, api.MaxSide+1)...),
		"H beyond MaxSide":           of(1, api.MaxSide+1, 255, make([]int, api.MaxSide+1)...),
		"more than MaxPixels":        of(128, 33, 255, make([]int, 128*33)...),
		"Max 0":                      of(1, 1, 0, 0),
		"Max beyond MaxValue":        of(1, 1, value+1, 1),
		"pixel below 0":              of(2, 1, 255, 1, -1),
		"pixel above Max":            of(2, 1, 255, 256, 1),
		"pixel least int":            of(2, 1, 255, math.MinInt, 1),
		"a product that wraps to 0":  of(1<<32, 1<<32, 255),
		"a product that wraps to 1":  of(math.MaxInt, math.MaxInt, 255, 1),
		"sides of the least integer": of(math.MinInt, math.MinInt, 255),
	}
}

// P10.2: planes and edges that are not valid.
func TestTileInvalid(t *testing.T) {
	for name, p := range invalid() {
		for _, e := range policies {
			for _, r := range []api.Rect{from(0, 0, 1, 1), whole(p), {}} {
				wantError(t, name, p, e, stage{one, one, 0, 0, 255}, r, api.ErrInvalid)
			}
		}
	}
	p := of(2, 1, 200, 1, 2)
	for _, c := range []struct {
		name string
		e    api.Edge
		want api.Code
	}{
		{"constant, Max", constant(200), api.OK},
		{"constant, beyond Max", constant(201), api.ErrInvalid},
		{"constant, below 0", constant(-1), api.ErrInvalid},
		{"constant, greatest int", constant(math.MaxInt), api.ErrInvalid},
		{"constant, least int", constant(math.MinInt), api.ErrInvalid},
		{"clamp with Fill", api.Edge{Policy: api.BorderClamp, Fill: 1}, api.ErrInvalid},
		{"mirror with Fill", api.Edge{Policy: api.BorderMirror, Fill: 1}, api.ErrInvalid},
		{"wrap with Fill", api.Edge{Policy: api.BorderWrap, Fill: -1}, api.ErrInvalid},
		{"no policy, -1", api.Edge{Policy: -1}, api.ErrInvalid},
		{"no policy, 4", api.Edge{Policy: 4}, api.ErrInvalid},
		{"no policy, greatest int", api.Edge{Policy: math.MaxInt}, api.ErrInvalid},
	} {
		// The edge has to be valid also where nothing is read outside of the plane, and for the Max of p, not out.
		for _, out := range []int{1, 255, value} {
			s := stage{one, one, 0, 0, out}
			if c.want == api.OK {
				wantPixels(t, c.name, p, c.e, s, whole(p), []int{1, min(2, out)})
				continue
			}
			wantError(t, c.name, p, c.e, s, whole(p), c.want)
		}
	}
}

// P10.2: the errors of Check for the Max of p, and the order of all errors.
func TestTileOrder(t *testing.T) {
	good, bad := of(2, 1, 255, 1, 2), of(2, 1, 255, 1, 256)
	great := of(2, 1, value, 1, 2)
	noEdge := api.Edge{Policy: 4}
	fine := stage{one, one, 0, 0, 255}
	heavy, light, wide := []int{weight + 1}, []int{-weight - 1}, alike(1, most+1)
	for _, c := range []struct {
		name string
		p    api.Plane
		e    api.Edge
		s    stage
		r    api.Rect
		want api.Code
	}{
		{"everything", api.Plane{}, noEdge, stage{nil, nil, -1, -1, 0}, api.Rect{}, api.ErrInvalid},
		{"plane and edge", bad, noEdge, fine, whole(good), api.ErrInvalid},
		{"plane and row", bad, clamp, stage{nil, one, 0, 0, 255}, whole(good), api.ErrInvalid},
		{"plane and weight", bad, clamp, stage{one, heavy, 0, 0, 255}, whole(good), api.ErrInvalid},
		{"plane and shift", bad, clamp, stage{one, one, -1, 0, 255}, whole(good), api.ErrInvalid},
		{"plane and out", bad, clamp, stage{one, one, 0, 0, 0}, whole(good), api.ErrInvalid},
		{"Max 0, which Check refuses, too", of(1, 1, 0, 0), clamp, fine, from(0, 0, 1, 1), api.ErrInvalid},
		{"plane and rectangle", bad, clamp, fine, api.Rect{}, api.ErrInvalid},
		{"edge and col", good, noEdge, stage{one, nil, 0, 0, 255}, whole(good), api.ErrInvalid},
		{"edge and weight", good, constant(256), stage{heavy, one, 0, 0, 255}, whole(good), api.ErrInvalid},
		{"edge and out", good, constant(-1), stage{one, one, 0, 0, value + 1}, whole(good), api.ErrInvalid},
		{"edge and accumulator", great, noEdge, stage{[]int{4097}, one, 0, 0, 255}, whole(good), api.ErrInvalid},
		{"edge and rectangle", good, noEdge, fine, from(0, 0, 3, 1), api.ErrInvalid},
		{"row too long", good, clamp, stage{wide, one, 0, 0, 255}, whole(good), api.ErrKernel},
		{"col too long", good, clamp, stage{one, wide, 0, 0, 255}, whole(good), api.ErrKernel},
		{"no row", good, clamp, stage{nil, one, 0, 0, 255}, whole(good), api.ErrKernel},
		{"no col", good, clamp, stage{one, []int{}, 0, 0, 255}, whole(good), api.ErrKernel},
		{"col and weight of row", good, clamp, stage{heavy, nil, 0, 0, 255}, whole(good), api.ErrKernel},
		{"row and rectangle", good, clamp, stage{nil, one, 0, 0, 255}, api.Rect{}, api.ErrKernel},
		{"weight of row", good, clamp, stage{light, one, 0, 0, 255}, whole(good), api.ErrWeight},
		{"weight of col", good, clamp, stage{one, heavy, 0, 0, 255}, whole(good), api.ErrWeight},
		{"shift", good, clamp, stage{one, one, shift + 1, 0, 255}, whole(good), api.ErrWeight},
		{"shift2", good, clamp, stage{one, one, 0, shift + 1, 255}, whole(good), api.ErrWeight},
		{"negative shift", good, clamp, stage{one, one, -1, 0, 255}, whole(good), api.ErrWeight},
		{"negative shift2", good, clamp, stage{one, one, 0, -1, 255}, whole(good), api.ErrWeight},
		{"weight and out", good, clamp, stage{one, light, 0, 0, 0}, whole(good), api.ErrWeight},
		{"shift2 and rectangle", good, clamp, stage{one, one, 0, -1, 255}, from(0, 0, 3, 1), api.ErrWeight},
		{"out 0", good, clamp, stage{one, one, 0, 0, 0}, whole(good), api.ErrRange},
		{"out beyond MaxValue", good, clamp, stage{one, one, 0, 0, value + 1}, whole(good), api.ErrRange},
		{"out and accumulator", great, clamp, stage{[]int{4097}, one, 0, 0, 0}, whole(good), api.ErrRange},
		{"out and rectangle", good, clamp, stage{one, one, 0, 0, -1}, api.Rect{}, api.ErrRange},
		{"accumulator of row", great, clamp, stage{[]int{4097}, one, shift, 0, 255}, whole(good), api.ErrAccumulator},
		{"accumulator of row, below", great, clamp, stage{[]int{-4097}, one, shift, 0, value}, whole(good), api.ErrAccumulator},
		{"accumulator of col", great, clamp, stage{one, []int{4097}, 0, shift, 255}, whole(good), api.ErrAccumulator},
		{"accumulator of col, below", great, clamp, stage{one, []int{-4097}, 0, shift, value}, whole(good), api.ErrAccumulator},
		{"span beyond MaxMid", great, clamp, stage{[]int{17}, one, 0, shift, 255}, whole(good), api.ErrAccumulator},
		{"accumulator by Max, not by pixels", of(1, 1, value, 0), clamp, stage{one, []int{4097}, 0, 0, 255}, from(0, 0, 1, 1), api.ErrAccumulator},
		{"accumulator and rectangle", great, clamp, stage{one, []int{4097}, 0, 0, 255}, api.Rect{}, api.ErrAccumulator},
		{"rectangle", good, clamp, fine, api.Rect{}, api.ErrShape},
	} {
		wantError(t, c.name, c.p, c.e, c.s, c.r, c.want)
	}
	// The same weights are accepted for a smaller Max, whatever out is.
	wantPixels(t, "no accumulator", good, clamp, stage{[]int{4097}, one, 0, 0, value}, whole(good), []int{4097, 8194})
	wantPixels(t, "no accumulator", good, clamp, stage{one, []int{4097}, 0, 0, value}, whole(good), []int{4097, 8194})
}

// P10.2: one weight of 1 in each list, with the shifts 0, gives the plane, with its pixels clamped to out.
func TestTileIdentity(t *testing.T) {
	for _, p := range []api.Plane{counted(1, 1), counted(7, 3), counted(128, 32), counted(1, 128), of(2, 1, value, value, value-1)} {
		for _, e := range policies {
			for _, out := range []int{1, 2, 10, 4096, value - 1, value} {
				want := slices.Clone(p.Pix)
				for i := range want {
					want[i] = min(want[i], out)
				}
				wantPixels(t, "identity", p, e, stage{one, one, 0, 0, out}, whole(p), want)
			}
		}
	}
}

// P10.2: with shift 0 it is the dense convolution with the products of the weights, where these are permitted. The shift
// of the dense one is shift2.
func TestTileDense(t *testing.T) {
	for i, p := range []api.Plane{counted(1, 1), counted(3, 1), counted(2, 5), counted(10, 7)} {
		for rows := 1; rows <= most; rows++ {
			for cols := 1; cols <= most; cols++ {
				for k, e := range policies {
					s := stage{mixed(rows, i), mixed(cols, k), 0, (rows + cols + i) % 7, 100 + k}
					var products []int
					for _, b := range s.col {
						for _, a := range s.row {
							products = append(products, a*b)
						}
					}
					r := from(p.W/3, p.H/3, p.W, p.H)
					want, code := convolve.Tile(p, e, rows, cols, products, s.shift2, s.out, r)
					if code != api.OK {
						t.Fatal(p, e, s, code)
					}
					wantPixels(t, "dense", p, e, s, r, want.Pix)
				}
			}
		}
	}
}

// R2: the pixels and weights of the arguments stay as they are, and results share no memory with them or each other.
func TestArgumentsStay(t *testing.T) {
	for _, e := range policies {
		p, row, col := counted(4, 3), []int{1, -2, 4}, []int{3, 0, 1, 1}
		s := stage{row, col, 1, 1, 255}
		before := [][]int{slices.Clone(p.Pix), slices.Clone(row), slices.Clone(col)}
		stay := func() {
			t.Helper()
			if after := [][]int{p.Pix, row, col}; !slices.EqualFunc(before, after, slices.Equal) {
				t.Fatalf("%v became %v", before, after)
			}
		}
		s.check(p.Max)
		stay()
		first, _ := s.tile(p, e, whole(p))
		stay()
		second, _ := s.tile(p, e, whole(p))
		kept := slices.Clone(first.Pix)
		for i := range second.Pix {
			second.Pix[i] = -5
		}
		stay()
		if third, _ := s.tile(p, e, whole(p)); !slices.Equal(first.Pix, kept) || !slices.Equal(third.Pix, kept) {
			t.Fatalf("%v became %v and %v", kept, first.Pix, third.Pix)
		}
		same, _ := Tile(p, e, one, one, 0, 0, p.Max, whole(p))
		for i := range same.Pix {
			same.Pix[i] = -5
		}
		stay()
		// One list may be both.
		wantPixels(t, "one list", of(1, 1, 9, 5), clamp, stage{row, row, 0, 0, 255}, from(0, 0, 1, 1), []int{45})
		stay()
	}
}

// R2: elements of the arguments beyond their lengths are neither read nor changed.
func TestCapacity(t *testing.T) {
	pix, row, col := []int{1, 2, 77, 77}, []int{10, 1, 88, 88}, []int{0, 1, 99, 99}
	p := of(2, 1, 9, pix[:2]...)
	wantPixels(t, "capacity", p, clamp, stage{row[:2], col[:2], 0, 0, 99}, whole(p), []int{11, 12})
	if !slices.Equal(pix, []int{1, 2, 77, 77}) || !slices.Equal(row, []int{10, 1, 88, 88}) || !slices.Equal(col, []int{0, 1, 99, 99}) {
		t.Error(pix, row, col)
	}
	wantError(t, "capacity", p, clamp, stage{row[:0], col, 0, 0, 99}, whole(p), api.ErrKernel)
}
