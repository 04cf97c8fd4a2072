package fixed

import (
	"math"
	"math/big"
	"slices"
	"testing"

	"tilefarm/api"
)

const (
	acc    = api.MaxAcc
	mid    = api.MaxMid
	weight = api.MaxWeight
	most   = api.MaxKernel * api.MaxKernel
)

// edges are the numbers around which signs, limits and the range of an int change.
var edges = []int{
	math.MinInt, math.MinInt + 1, -1 << 62, -acc - 2, -acc - 1, -acc, -acc + 1, -acc + 2, -mid - 1, -mid, -mid + 1,
	-1 << 32, -weight - 1, -weight, -weight + 1, -82, -81, -80, -17, -3, -2, -1,
	0, 1, 2, 3, 17, 80, 81, 82, weight - 1, weight, weight + 1, 1 << 32,
	mid - 1, mid, mid + 1, acc - 2, acc - 1, acc, acc + 1, acc + 2, 1 << 62, math.MaxInt - 1, math.MaxInt,
}

// notShifts lists numbers that are not from 0 to MaxShift.
var notShifts = []int{
	math.MinInt, -1 << 32, -64, -63, -25, -24, -2, -1, api.MaxShift + 1, api.MaxShift + 2, 32, 44, 62, 63, 64, 65, 1 << 32,
	math.MaxInt,
}

// shifted returns what the chapter says of Shift, by exact quotients.
func shifted(a, s int) int {
	if a < -acc || a > acc || s < 0 || s > api.MaxShift {
		return 0
	}
	if s == 0 {
		return a
	}
	unit := new(big.Int).Lsh(big.NewInt(1), uint(s))
	half := new(big.Int).Lsh(big.NewInt(1), uint(s-1))
	// Div rounds down for a positive divisor.
	return int(half.Div(half.Add(half, big.NewInt(int64(a))), unit).Int64())
}

// wantBounds compares Bounds with a result and true, or with 0, 0 and false.
func wantBounds(t *testing.T, name string, l []int, lo, hi, least, greatest int, ok bool) {
	t.Helper()
	if a, b, got := Bounds(l, lo, hi); a != least || b != greatest || got != ok {
		t.Errorf("%s: Bounds(%v, %d, %d) = %d, %d, %v, want %d, %d, %v", name, l, lo, hi, a, b, got, least, greatest, ok)
	}
}

// P7.1: Shift.
func TestShiftCases(t *testing.T) {
	for _, c := range []struct {
		name       string
		a, s, want int
	}{
		{"example 1", 5, 1, 3},
		{"example 1, a negative half", -5, 1, -2},
		{"example 1, a negative half of a shift by 2", -6, 2, -1},
		{"a half of a shift by 2", 6, 2, 2},
		{"below a half", 5, 2, 1},
		{"above a half", 7, 2, 2},
		{"below a negative half", -7, 2, -2},
		{"above a negative half", -5, 2, -1},
		{"a multiple", 12, 2, 3},
		{"a negative multiple", -12, 2, -3},
		{"shift by 0", 7, 0, 7},
		{"negative, shift by 0", -7, 0, -7},
		{"zero, shift by 0", 0, 0, 0},
		{"zero, shift by 1", 0, 1, 0},
		{"zero, greatest shift", 0, 24, 0},
		{"one, shift by 1", 1, 1, 1},
		{"minus one, shift by 1", -1, 1, 0},
		{"minus two, shift by 1", -2, 1, -1},
		{"minus three, shift by 1", -3, 1, -1},
		{"one, shift by 2", 1, 2, 0},
		{"minus one, shift by 2", -1, 2, 0},
		{"minus one, greatest shift", -1, 24, 0},
		{"a half, greatest shift", 1 << 23, 24, 1},
		{"one below a half, greatest shift", 1<<23 - 1, 24, 0},
		{"one above a half, greatest shift", 1<<23 + 1, 24, 1},
		{"a negative half, greatest shift", -1 << 23, 24, 0},
		{"one below a negative half, greatest shift", -1<<23 - 1, 24, -1},
		{"one above a negative half, greatest shift", -1<<23 + 1, 24, 0},
		{"the second half, greatest shift", 3 << 23, 24, 2},
		{"the second negative half, greatest shift", -3 << 23, 24, -1},
		{"shift by 23", 3 << 22, 23, 2},
	} {
		if got := Shift(c.a, c.s); got != c.want {
			t.Errorf("%s: Shift(%d, %d) = %d, want %d", c.name, c.a, c.s, got, c.want)
		}
	}
}

// P7.1: Shift at the halves between two integers and just beside them, with every shift, and up to both ends.
func TestShiftHalves(t *testing.T) {
	for s := 1; s <= api.MaxShift; s++ {
		greatest := acc >> s
		for k := -200; k <= 200; k++ {
			wantHalf(t, k, s)
		}
		for k := range 200 {
			wantHalf(t, greatest-1-k, s)
			wantHalf(t, -greatest+k, s)
		}
	}
}

// wantHalf compares Shift at the half between k and k + 1.
func wantHalf(t *testing.T, k, s int) {
	t.Helper()
	half := (2*k + 1) << (s - 1)
	for _, c := range [][2]int{{half - 1, k}, {half, k + 1}, {half + 1, k + 1}} {
		if got := Shift(c[0], s); got != c[1] {
			t.Fatalf("Shift(%d, %d) = %d, want %d", c[0], s, got, c[1])
		}
	}
}

// P7.1: Shift at and just beyond both ends of its numbers.
func TestShiftEnds(t *testing.T) {
	for s := range api.MaxShift + 1 {
		if got := Shift(acc, s); got != 1<<(44-s) {
			t.Errorf("Shift(MaxAcc, %d) = %d", s, got)
		}
		if got := Shift(-acc, s); got != -1<<(44-s) {
			t.Errorf("Shift(-MaxAcc, %d) = %d", s, got)
		}
		for _, a := range []int{acc + 1, acc + 2, 2 * acc, math.MaxInt - 1, math.MaxInt, -acc - 1, -acc - 2, -2 * acc, math.MinInt + 1, math.MinInt} {
			if got := Shift(a, s); got != 0 {
				t.Errorf("Shift(%d, %d) = %d, want 0", a, s, got)
			}
		}
	}
}

// P7.1: shifts beyond both ends.
func TestShiftNotShifts(t *testing.T) {
	for _, s := range notShifts {
		for _, a := range edges {
			if got := Shift(a, s); got != 0 {
				t.Errorf("Shift(%d, %d) = %d, want 0", a, s, got)
			}
		}
	}
}

// P7.1: Shift by exact quotients.
func TestShiftIsExact(t *testing.T) {
	for s := -2; s <= api.MaxShift+2; s++ {
		for _, a := range edges {
			if got, want := Shift(a, s), shifted(a, s); got != want {
				t.Errorf("Shift(%d, %d) = %d, want %d", a, s, got, want)
			}
		}
		// A step that is no multiple of a power of two reaches rests of all sizes.
		for a := -acc; a <= acc; a += 12345678901 {
			if got, want := Shift(a, s), shifted(a, s); got != want {
				t.Fatalf("Shift(%d, %d) = %d, want %d", a, s, got, want)
			}
		}
	}
}

// The consequence of P7.1: Shift is monotone.
func TestShiftIsMonotone(t *testing.T) {
	for s := range api.MaxShift + 1 {
		for _, start := range []int{-acc, -1 << s, -1 << s >> 1, 0, 1 << s >> 1, 1 << s, acc} {
			first, last := max(start-50, -acc), min(start+50, acc)
			for a := first + 1; a <= last; a++ {
				if Shift(a-1, s) > Shift(a, s) {
					t.Fatalf("Shift(%d, %d) is greater than that of the next number", a-1, s)
				}
			}
		}
	}
}

// P7.1: Clamp.
func TestClampCases(t *testing.T) {
	for _, c := range []struct {
		name         string
		v, max, want int
	}{
		{"within", 5, 9, 5},
		{"at the lower end", 0, 9, 0},
		{"just above the lower end", 1, 9, 1},
		{"just below the lower end", -1, 9, 0},
		{"below", -50, 9, 0},
		{"just below the upper end", 8, 9, 8},
		{"at the upper end", 9, 9, 9},
		{"just above the upper end", 10, 9, 9},
		{"above", 50, 9, 9},
		{"below, by the upper end's absolute value", -9, 9, 0},
		{"zero, max 0", 0, 0, 0},
		{"above, max 0", 1, 0, 0},
		{"below, max 0", -1, 0, 0},
		{"zero, max negative", 0, -1, 0},
		{"positive, max negative", 5, -1, 0},
		{"above a negative max", -1, -5, 0},
		{"at a negative max", -5, -5, 0},
		{"below a negative max", -9, -5, 0},
		{"max of a plane", api.MaxValue + 1, api.MaxValue, api.MaxValue},
		{"greatest int", math.MaxInt, math.MaxInt, math.MaxInt},
		{"greatest int, less by one", math.MaxInt - 1, math.MaxInt, math.MaxInt - 1},
		{"greatest int above", math.MaxInt, math.MaxInt - 1, math.MaxInt - 1},
		{"greatest int, max 0", math.MaxInt, 0, 0},
		{"least int", math.MinInt, 3, 0},
		{"least int, greatest max", math.MinInt, math.MaxInt, 0},
		{"greatest int, least max", math.MaxInt, math.MinInt, 0},
		{"least int twice", math.MinInt, math.MinInt, 0},
	} {
		if got := Clamp(c.v, c.max); got != c.want {
			t.Errorf("%s: Clamp(%d, %d) = %d, want %d", c.name, c.v, c.max, got, c.want)
		}
	}
}

// P7.1: Clamp for all integers.
func TestClampIsExact(t *testing.T) {
	for _, limit := range edges {
		for _, v := range edges {
			want := v
			if v > limit {
				want = limit
			}
			if v < 0 || limit < 0 {
				want = 0
			}
			if got := Clamp(v, limit); got != want {
				t.Errorf("Clamp(%d, %d) = %d, want %d", v, limit, got, want)
			}
		}
	}
}

// P7.2.
func TestWeightsCases(t *testing.T) {
	for _, c := range []struct {
		name string
		l    []int
		want api.Code
	}{
		{"nil", nil, api.ErrKernel},
		{"empty", []int{}, api.ErrKernel},
		{"one weight", []int{5}, api.OK},
		{"one weight of 0", []int{0}, api.OK},
		{"both signs", []int{-1, 2, -1}, api.OK},
		{"the greatest and the least weight", []int{weight, -weight}, api.OK},
		{"MaxKernel * MaxKernel weights", make([]int, most), api.OK},
		{"MaxKernel * MaxKernel greatest weights", slices.Repeat([]int{weight}, most), api.OK},
		{"MaxKernel * MaxKernel least weights", slices.Repeat([]int{-weight}, most), api.OK},
		{"one weight fewer", make([]int, most-1), api.OK},
		{"one weight more", make([]int, most+1), api.ErrKernel},
		{"many weights", make([]int, 10000), api.ErrKernel},
		{"beyond the greatest weight", []int{weight + 1}, api.ErrWeight},
		{"beyond the least weight", []int{-weight - 1}, api.ErrWeight},
		{"greatest int", []int{math.MaxInt}, api.ErrWeight},
		{"least int", []int{math.MinInt}, api.ErrWeight},
		{"a weight that fits in 16 bits after wrapping", []int{1 << 16}, api.ErrWeight},
		{"a weight that fits in 32 bits after wrapping", []int{1 << 32}, api.ErrWeight},
		{"two that have the sum 0", []int{weight + 1, -weight - 1}, api.ErrWeight},
		{"one weight more, the last beyond the greatest", append(make([]int, most), weight+1), api.ErrKernel},
		{"one weight more, the first beyond the least", append([]int{-weight - 1}, make([]int, most)...), api.ErrKernel},
		{"one weight more, all beyond the greatest", slices.Repeat([]int{math.MaxInt}, most+1), api.ErrKernel},
	} {
		if got := Weights(c.l); got != c.want {
			t.Errorf("%s: Weights = %d, want %d", c.name, got, c.want)
		}
	}
}

// P7.2: a weight that is out of range at every place of lists of every length.
func TestWeightsPlaces(t *testing.T) {
	for count := range most + 1 {
		for place := range count {
			l := slices.Repeat([]int{weight}, count)
			for _, bad := range []int{weight + 1, -weight - 1, math.MinInt, math.MaxInt} {
				l[place] = bad
				if got := Weights(l); got != api.ErrWeight {
					t.Fatalf("Weights of %d, with %d at %d, = %d, want ErrWeight", count, bad, place, got)
				}
			}
			l[place] = -weight
			if got := Weights(l); got != api.OK {
				t.Fatalf("Weights of %d = %d, want OK", count, got)
			}
		}
	}
}

// P7.3: Bounds of ordinary weights and numbers.
func TestBoundsCases(t *testing.T) {
	for _, c := range []struct {
		name                    string
		l                       []int
		lo, hi, least, greatest int
	}{
		{"example 2", []int{1, -2}, 0, 10, -20, 10},
		{"one positive weight", []int{3}, -5, 7, -15, 21},
		{"one negative weight", []int{-3}, -5, 7, -21, 15},
		{"one weight of 0", []int{0}, -5, 7, 0, 0},
		{"weights of 0", make([]int, most), -mid, mid, 0, 0},
		{"all signs", []int{2, 0, -3}, -5, 7, -31, 29},
		{"all signs, positive numbers", []int{2, 0, -3}, 4, 7, -13, 2},
		{"all signs, negative numbers", []int{2, 0, -3}, -7, -4, -2, 13},
		{"numbers up to 0", []int{2, -3}, -7, 0, -14, 21},
		{"equal weights", []int{1, 1}, 4, 5, 8, 10},
		{"lo equal to hi", []int{2, -3, 5}, 4, 4, 16, 16},
		{"lo equal to hi, negative", []int{2, -3, 5}, -4, -4, -16, -16},
		{"lo equal to hi, 0", []int{2, -3, 5}, 0, 0, 0, 0},
		{"opposite weights, lo equal to hi", []int{1, -1}, 9, 9, 0, 0},
		{"opposite weights", []int{1, -1}, 0, 9, -9, 9},
		{"MaxKernel * MaxKernel weights", slices.Repeat([]int{1}, most), -1, 2, -81, 162},
	} {
		wantBounds(t, c.name, c.l, c.lo, c.hi, c.least, c.greatest, true)
	}
}

// P7.3: lo and hi, and results, at and just beyond their ends.
func TestBoundsEnds(t *testing.T) {
	for _, c := range []struct {
		name                    string
		l                       []int
		lo, hi, least, greatest int
		ok                      bool
	}{
		{"numbers at both ends", []int{1}, -mid, mid, -mid, mid, true},
		{"lo and hi at the lower end", []int{1}, -mid, -mid, -mid, -mid, true},
		{"lo and hi at the upper end", []int{1}, mid, mid, mid, mid, true},
		{"lo beyond the lower end", []int{1}, -mid - 1, mid, 0, 0, false},
		{"hi beyond the upper end", []int{1}, -mid, mid + 1, 0, 0, false},
		{"lo and hi beyond the lower end", []int{1}, -mid - 1, -mid - 1, 0, 0, false},
		{"lo and hi beyond the upper end", []int{1}, mid + 1, mid + 1, 0, 0, false},
		{"lo beyond the lower end, weight 0", []int{0}, -mid - 1, 0, 0, 0, false},
		{"hi beyond the upper end, weight 0", []int{0}, 0, mid + 1, 0, 0, false},
		{"least and greatest int", []int{1}, math.MinInt, math.MaxInt, 0, 0, false},
		{"least int twice", []int{1}, math.MinInt, math.MinInt, 0, 0, false},
		{"greatest int twice", []int{0}, math.MaxInt, math.MaxInt, 0, 0, false},
		{"greatest MaxAcc", []int{256}, 0, mid, 0, acc, true},
		{"greatest beyond MaxAcc by 1", []int{256, 1}, 1, mid, 0, 0, false},
		{"greatest MaxAcc by a positive and a negative weight", []int{256, -1}, 0, mid, -mid, acc, true},
		{"greatest beyond MaxAcc by the negative weight", []int{256, -1}, -1, mid, 0, 0, false},
		{"greatest one below MaxAcc", []int{255, 1}, 0, mid - 1, 0, 256 * (mid - 1), true},
		{"greatest MaxAcc by negative numbers", []int{-256}, -mid, 0, 0, acc, true},
		{"greatest beyond MaxAcc by negative numbers", []int{-257}, -mid, 0, 0, 0, false},
		{"least -MaxAcc", []int{-256}, 0, mid, -acc, 0, true},
		{"least beyond -MaxAcc", []int{-257}, 0, mid, 0, 0, false},
		{"least -MaxAcc by negative numbers", []int{256}, -mid, 0, -acc, 0, true},
		{"least beyond -MaxAcc by negative numbers", []int{257}, -mid, 0, 0, 0, false},
		{"both at their ends", []int{256}, -mid, mid, -acc, acc, true},
		{"both at their ends, negative weight", []int{-256}, -mid, mid, -acc, acc, true},
		{"both at their ends, both signs", []int{128, -128}, -mid, mid, -acc, acc, true},
		{"only the least beyond its end", []int{256}, -mid, 0, -acc, 0, true},
		{"both beyond their ends", []int{257}, -mid, mid, 0, 0, false},
		{"both beyond their ends, both signs", []int{128, -129}, -mid, mid, 0, 0, false},
		{"products beyond MaxAcc with the sum 0", []int{weight, -weight}, mid, mid, 0, 0, true},
		{"products beyond MaxAcc with a small sum", []int{weight, -weight, 5}, mid, mid, 5 * mid, 5 * mid, true},
		{"products beyond MaxAcc with a small negative sum", []int{-weight, weight, 5}, -mid, -mid, -5 * mid, -5 * mid, true},
		{"sums of 40 products beyond MaxAcc", append(slices.Repeat([]int{weight}, 40), slices.Repeat([]int{-weight}, 40)...), mid, mid, 0, 0, true},
		{"sums of 81 products", slices.Repeat([]int{weight}, most), mid, mid, 0, 0, false},
		{"sums of 81 products of both signs", slices.Repeat([]int{-weight}, most), -mid, mid, 0, 0, false},
	} {
		wantBounds(t, c.name, c.l, c.lo, c.hi, c.least, c.greatest, c.ok)
	}
}

// P7.3: least and greatest results one beside -MaxAcc and MaxAcc, each alone and both at once.
func TestBoundsBesideEnds(t *testing.T) {
	for _, c := range []struct {
		w, n, sum int
		ok        bool
	}{
		{345, 50991843607, acc - 1, true},
		{256, mid, acc, true},
		{6001, 2931542417, acc + 1, false},
	} {
		sum := c.sum
		if c.w*c.n != sum {
			t.Fatalf("%d * %d is not %d", c.w, c.n, sum)
		}
		if !c.ok {
			sum = 0
		}
		wantBounds(t, "greatest", []int{c.w}, 0, c.n, 0, sum, c.ok)
		wantBounds(t, "greatest, negative weight", []int{-c.w}, -c.n, 0, 0, sum, c.ok)
		wantBounds(t, "least", []int{c.w}, -c.n, 0, -sum, 0, c.ok)
		wantBounds(t, "least, negative weight", []int{-c.w}, 0, c.n, -sum, 0, c.ok)
		wantBounds(t, "both", []int{c.w}, -c.n, c.n, -sum, sum, c.ok)
		wantBounds(t, "both, positive", []int{c.w}, c.n, c.n, sum, sum, c.ok)
		wantBounds(t, "both, negative", []int{c.w}, -c.n, -c.n, -sum, -sum, c.ok)
		wantBounds(t, "both, negative weight", []int{-c.w}, c.n, c.n, -sum, -sum, c.ok)
		wantBounds(t, "both, of weights with this sum", []int{c.w + 9, -9, 0}, c.n, c.n, sum, sum, c.ok)
	}
}

// P7.3: the arguments for which there are no bounds.
func TestBoundsNone(t *testing.T) {
	for _, c := range []struct {
		name   string
		l      []int
		lo, hi int
	}{
		{"nil", nil, 0, 1},
		{"empty", []int{}, 0, 0},
		{"one weight more", make([]int, most+1), 0, 1},
		{"beyond the greatest weight", []int{weight + 1}, 0, 1},
		{"beyond the least weight", []int{-weight - 1}, 0, 1},
		{"beyond the greatest weight, times 0", []int{weight + 1}, 0, 0},
		{"the last weight beyond the least", []int{1, 2, -weight - 1}, 0, 1},
		{"least int", []int{math.MinInt}, 0, 0},
		{"greatest int", []int{math.MaxInt}, 0, 0},
		{"lo greater than hi", []int{1}, 5, 4},
		{"lo greater than hi, weight 0", []int{0}, 5, 4},
		{"lo greater than hi, at both ends", []int{1}, mid, -mid},
		{"lo greater than hi, negative", []int{1}, -4, -5},
		{"lo greater than hi, 0", []int{1}, 0, -1},
		{"greatest and least int", []int{1}, math.MaxInt, math.MinInt},
		{"all at once", nil, math.MaxInt, math.MinInt},
	} {
		wantBounds(t, c.name, c.l, c.lo, c.hi, 0, 0, false)
	}
}

// sums calls f with the sum of each choice of a number from lo to hi for each weight.
func sums(l []int, lo, hi, sum int, f func(int)) {
	if len(l) == 0 {
		f(sum)
		return
	}
	for n := lo; n <= hi; n++ {
		sums(l[1:], lo, hi, sum+l[0]*n, f)
	}
}

// P7.3: Bounds by all choices. So every sum lies within them, and both are reached.
func TestBoundsByAllChoices(t *testing.T) {
	for count := 1; count <= 3; count++ {
		every(count, nil, func(l []int) {
			for lo := -3; lo <= 3; lo++ {
				for hi := lo; hi <= 3; hi++ {
					least, greatest := math.MaxInt, math.MinInt
					sums(l, lo, hi, 0, func(sum int) {
						least, greatest = min(least, sum), max(greatest, sum)
					})
					wantBounds(t, "all choices", l, lo, hi, least, greatest, true)
				}
			}
		})
	}
}

// every calls f with all lists of as many weights from -3 to 3 behind those of l.
func every(count int, l []int, f func([]int)) {
	if count == 0 {
		f(l)
		return
	}
	for w := -3; w <= 3; w++ {
		every(count-1, append(slices.Clone(l), w), f)
	}
}

// P7.3: Bounds by exact sums, for all pairs of weights and of numbers around the limits.
func TestBoundsIsExact(t *testing.T) {
	for _, v := range edges {
		for _, w := range edges {
			for _, lo := range edges {
				for _, hi := range edges {
					l := []int{v, w}
					least, greatest, ok := exactBounds(l, lo, hi)
					wantBounds(t, "exact", l, lo, hi, least, greatest, ok)
				}
			}
		}
	}
}

// exactBounds returns what the chapter says of Bounds, by exact products and sums.
func exactBounds(l []int, lo, hi int) (int, int, bool) {
	if lo > hi || lo < -mid || hi > mid {
		return 0, 0, false
	}
	least, greatest := new(big.Int), new(big.Int)
	for _, w := range l {
		if w < -weight || w > weight {
			return 0, 0, false
		}
		low, high := lo, hi
		if w < 0 {
			low, high = hi, lo
		}
		least.Add(least, new(big.Int).Mul(big.NewInt(int64(w)), big.NewInt(int64(low))))
		greatest.Add(greatest, new(big.Int).Mul(big.NewInt(int64(w)), big.NewInt(int64(high))))
	}
	limit := big.NewInt(acc)
	if least.CmpAbs(limit) > 0 || greatest.CmpAbs(limit) > 0 {
		return 0, 0, false
	}
	return int(least.Int64()), int(greatest.Int64()), true
}

// P7.3: Span.
func TestSpanCases(t *testing.T) {
	for _, c := range []struct {
		name                    string
		lo, hi, s, least, great int
	}{
		{"ordinary", -5, 5, 1, -2, 3},
		{"shift by 0", -5, 5, 0, -5, 5},
		{"greatest shift", -acc, acc, 24, -1 << 20, 1 << 20},
		{"both ends", -acc, acc, 0, -acc, acc},
		{"lo greater than hi", 6, -6, 2, 2, -1},
		{"lo equal to hi", 7, 7, 2, 2, 2},
		{"lo out of range", -acc - 1, 5, 1, 0, 3},
		{"hi out of range", -5, acc + 1, 1, -2, 0},
		{"both out of range", math.MinInt, math.MaxInt, 0, 0, 0},
		{"shift -1", -5, 5, -1, 0, 0},
		{"shift beyond MaxShift", -acc, acc, 25, 0, 0},
	} {
		if a, b := Span(c.lo, c.hi, c.s); a != c.least || b != c.great {
			t.Errorf("%s: Span(%d, %d, %d) = %d, %d, want %d, %d", c.name, c.lo, c.hi, c.s, a, b, c.least, c.great)
		}
	}
}

// P7.3: Span is Shift of both numbers, also of those that are out of range.
func TestSpanIsShift(t *testing.T) {
	for s := -2; s <= api.MaxShift+2; s++ {
		for _, lo := range edges {
			for _, hi := range edges {
				if a, b := Span(lo, hi, s); a != shifted(lo, s) || b != shifted(hi, s) {
					t.Fatalf("Span(%d, %d, %d) = %d, %d", lo, hi, s, a, b)
				}
			}
		}
	}
}

// R2: the weights of the argument stay as they are.
func TestArgumentsStay(t *testing.T) {
	for _, l := range [][]int{{3, -1, 2, 0}, {weight, -weight}, {weight + 1, 0, -5}} {
		before := slices.Clone(l)
		Weights(l)
		Bounds(l, -4, 9)
		if !slices.Equal(l, before) {
			t.Errorf("%v became %v", before, l)
		}
	}
}
