package tables

import (
	"cmp"
	"math"
	"slices"
	"testing"

	"tilefarm/api"
	"tilefarm/ieee"
)

const (
	side   = api.MaxSide
	weight = api.MaxWeight
	taps   = api.MaxTaps
)

// notSides lists numbers that are not from 1 to MaxSide.
var notSides = []int{math.MinInt, math.MinInt + 1, -1 << 32, -side, -2, -1, 0, side + 1, side + 2, 1 << 32, 1<<32 + 1, 1 << 62, math.MaxInt}

// notShifts lists numbers that are not from 0 to 14.
var notShifts = []int{math.MinInt, -1 << 32, -64, -14, -2, -1, 15, 16, api.MaxShift, 32, 63, 64, 1 << 32, math.MaxInt}

func tap(first int, weights ...int) api.Tap { return api.Tap{First: first, Weights: weights} }

// zeros returns a tap with as many weights of 0.
func zeros(first, count int) api.Tap { return tap(first, make([]int, count)...) }

// alike returns a table with as many taps.
func alike(t api.Tap, count int) []api.Tap { return slices.Repeat([]api.Tap{t}, count) }

func same(a, b []api.Tap) bool {
	return slices.EqualFunc(a, b, func(x, y api.Tap) bool { return x.First == y.First && slices.Equal(x.Weights, y.Weights) })
}

func sumOf(l []int) int {
	sum := 0
	for _, n := range l {
		sum += n
	}
	return sum
}

// P8.1.
func TestValidCases(t *testing.T) {
	good := tap(0, 1)
	for _, c := range []struct {
		name string
		l    []api.Tap
		n    int
		want api.Code
	}{
		{"n is 1", []api.Tap{good}, 1, api.OK},
		{"n is 2", []api.Tap{good}, 2, api.OK},
		{"n is one below MaxSide", []api.Tap{good}, side - 1, api.OK},
		{"n is MaxSide", []api.Tap{good}, side, api.OK},
		{"nil", nil, 5, api.ErrShape},
		{"no taps", []api.Tap{}, 5, api.ErrShape},
		{"one tap fewer than MaxSide", alike(good, side-1), 5, api.OK},
		{"MaxSide taps", alike(good, side), 5, api.OK},
		{"MaxSide + 1 taps", alike(good, side+1), 5, api.ErrShape},
		{"many taps", alike(good, 5000), 5, api.ErrShape},
		{"more taps than the source has pixels", alike(good, 9), 1, api.OK},
		{"different numbers of weights", []api.Tap{tap(-3, 1, -2, 3), tap(7, 0), zeros(2, 8)}, 5, api.OK},
		{"First beyond the source", []api.Tap{tap(9, 1)}, 5, api.OK},
		{"a sum of 0", []api.Tap{tap(0, 1, -1)}, 5, api.OK},
		{"nil weights", []api.Tap{{}}, 5, api.ErrKernel},
		{"no weights", []api.Tap{{First: 1, Weights: []int{}}}, 5, api.ErrKernel},
		{"one weight fewer than MaxTaps", []api.Tap{zeros(0, taps-1)}, 5, api.OK},
		{"MaxTaps weights", []api.Tap{zeros(0, taps)}, 5, api.OK},
		{"MaxTaps + 1 weights", []api.Tap{zeros(0, taps+1)}, 5, api.ErrKernel},
		{"MaxKernel * MaxKernel weights", []api.Tap{zeros(0, api.MaxKernel*api.MaxKernel)}, 5, api.ErrKernel},
		{"many weights", []api.Tap{zeros(0, 5000)}, 5, api.ErrKernel},
		{"one beside both ends of weights", []api.Tap{tap(0, weight-1, -weight+1)}, 5, api.OK},
		{"both ends of weights", []api.Tap{tap(0, weight, -weight)}, 5, api.OK},
		{"MaxTaps greatest weights", []api.Tap{tap(0, slices.Repeat([]int{weight}, taps)...)}, 5, api.OK},
		{"beyond MaxWeight", []api.Tap{tap(0, weight+1)}, 5, api.ErrWeight},
		{"beyond -MaxWeight", []api.Tap{tap(0, -weight-1)}, 5, api.ErrWeight},
		{"greatest int as a weight", []api.Tap{tap(0, math.MaxInt)}, 5, api.ErrWeight},
		{"least int as a weight", []api.Tap{tap(0, math.MinInt)}, 5, api.ErrWeight},
		{"a weight that fits in 32 bits after wrapping", []api.Tap{tap(0, 1<<32)}, 5, api.ErrWeight},
		{"the last weight beyond MaxWeight", []api.Tap{tap(0, 1, 2, 3, 4, 5, 6, 7, weight+1)}, 5, api.ErrWeight},
		{"the first weight beyond -MaxWeight", []api.Tap{tap(0, -weight-1, 2, 3)}, 5, api.ErrWeight},
		{"one beside both ends of First", []api.Tap{tap(-side+1, 1), tap(2*side-1, 1)}, 5, api.OK},
		{"First at -MaxSide", []api.Tap{tap(-side, 1)}, 1, api.OK},
		{"First at 2 * MaxSide", []api.Tap{tap(2*side, 1)}, 1, api.OK},
		{"First at 2 * MaxSide with MaxTaps weights", []api.Tap{zeros(2*side, taps)}, 1, api.OK},
		{"First beyond -MaxSide", []api.Tap{tap(-side-1, 1)}, side, api.ErrRange},
		{"First beyond 2 * MaxSide", []api.Tap{tap(2*side+1, 1)}, side, api.ErrRange},
		{"First at -2 * MaxSide", []api.Tap{tap(-2*side, 1)}, side, api.ErrRange},
		{"First is the least int", []api.Tap{tap(math.MinInt, 1)}, 5, api.ErrRange},
		{"First is the greatest int", []api.Tap{tap(math.MaxInt, 1)}, 5, api.ErrRange},
		{"First that fits in 32 bits after wrapping", []api.Tap{tap(1<<32, 1)}, 5, api.ErrRange},
	} {
		if got := Valid(c.l, c.n); got != c.want {
			t.Errorf("%s: Valid = %d, want %d", c.name, got, c.want)
		}
	}
	for n := -300; n <= 300; n++ {
		want := api.OK
		if n < 1 || n > side {
			want = api.ErrShape
		}
		if got := Valid([]api.Tap{good}, n); got != want {
			t.Errorf("Valid for the length %d = %d, want %d", n, got, want)
		}
	}
	for _, n := range notSides {
		if got := Valid([]api.Tap{good}, n); got != api.ErrShape {
			t.Errorf("Valid for the length %d = %d, want ErrShape", n, got)
		}
	}
}

// P8.1: the order of the errors, of the table and within one tap.
func TestValidOrder(t *testing.T) {
	many := tap(999, slices.Repeat([]int{math.MaxInt}, taps+1)...)
	for _, c := range []struct {
		name string
		l    []api.Tap
		n    int
		want api.Code
	}{
		{"n, and no weights", []api.Tap{{}}, 0, api.ErrShape},
		{"n, and a weight", []api.Tap{tap(0, weight+1)}, side + 1, api.ErrShape},
		{"n, and First", []api.Tap{tap(999, 1)}, -1, api.ErrShape},
		{"n, and no taps", nil, 0, api.ErrShape},
		{"too many taps, and no weights", alike(api.Tap{}, side+1), 5, api.ErrShape},
		{"too many taps, and weights", alike(tap(0, weight+1), side+1), 5, api.ErrShape},
		{"too many taps, and Firsts", alike(tap(999, 1), side+1), 5, api.ErrShape},
		{"no weights, and First", []api.Tap{{First: 999}}, 5, api.ErrKernel},
		{"too many weights, a weight, and First", []api.Tap{many}, 5, api.ErrKernel},
		{"too many weights, and First", []api.Tap{zeros(-999, taps+1)}, 5, api.ErrKernel},
		{"a weight, and First", []api.Tap{tap(999, 1, weight+1)}, 5, api.ErrWeight},
		{"a weight, and First below", []api.Tap{tap(-side-1, -weight-1)}, 5, api.ErrWeight},
	} {
		if got := Valid(c.l, c.n); got != c.want {
			t.Errorf("%s: Valid = %d, want %d", c.name, got, c.want)
		}
	}
}

// P8.1: the first tap that has an error decides, at every place and whatever the next errors are.
func TestValidPlaces(t *testing.T) {
	bad := []struct {
		tap  api.Tap
		code api.Code
	}{
		{api.Tap{}, api.ErrKernel},
		{zeros(0, taps+1), api.ErrKernel},
		{tap(0, 1, weight+1), api.ErrWeight},
		{tap(0, -weight-1), api.ErrWeight},
		{tap(-side-1, 1), api.ErrRange},
		{tap(2*side+1, 1, 2), api.ErrRange},
	}
	for _, count := range []int{1, 2, 3, 7, side - 1, side} {
		for place := range count {
			for _, b := range bad {
				l := alike(tap(3, 1, 2), count)
				l[place] = b.tap
				if got := Valid(l, 5); got != b.code {
					t.Fatalf("Valid of %d taps, with %v at %d, = %d, want %d", count, b.tap, place, got, b.code)
				}
				for _, next := range bad {
					if place+1 < count {
						l[place+1], l[count-1] = next.tap, next.tap
					}
					if got := Valid(l, 5); got != b.code {
						t.Fatalf("Valid of %d taps, with %v at %d and %v behind it, = %d, want %d", count, b.tap, place, next.tap, got, b.code)
					}
				}
			}
		}
	}
}

// P8.2.
func TestBoxCases(t *testing.T) {
	for _, c := range []struct {
		name        string
		n, m, shift int
		want        []api.Tap
	}{
		{"example 1", 5, 2, 8, []api.Tap{tap(0, 103, 102, 51), tap(2, 51, 103, 102)}},
		{"one pixel", 1, 1, 8, []api.Tap{tap(0, 256)}},
		{"one pixel, shift 0", 1, 1, 0, []api.Tap{tap(0, 1)}},
		{"one pixel, shift 14", 1, 1, 14, []api.Tap{tap(0, 16384)}},
		{"m equal to n", 3, 3, 8, []api.Tap{tap(0, 256), tap(1, 256), tap(2, 256)}},
		{"m half of n", 6, 3, 8, []api.Tap{tap(0, 128, 128), tap(2, 128, 128), tap(4, 128, 128)}},
		{"m a quarter of n", 4, 1, 8, []api.Tap{tap(0, 64, 64, 64, 64)}},
		{"m twice n", 2, 4, 8, []api.Tap{tap(0, 256), tap(0, 256), tap(1, 256), tap(1, 256)}},
		{"one pixel to three", 1, 3, 5, []api.Tap{tap(0, 32), tap(0, 32), tap(0, 32)}},
		{"intervals that end within a coordinate", 3, 2, 8, []api.Tap{tap(0, 171, 85), tap(1, 85, 171)}},
		{"intervals that begin and end within one coordinate", 2, 5, 4, []api.Tap{tap(0, 16), tap(0, 16), tap(0, 8, 8), tap(1, 16), tap(1, 16)}},
		{"an interval over an end of a coordinate", 2, 3, 3, []api.Tap{tap(0, 8), tap(0, 4, 4), tap(1, 8)}},
		{"an interval over a short and a long part", 3, 4, 6, []api.Tap{tap(0, 64), tap(0, 21, 43), tap(1, 43, 21), tap(2, 64)}},
		{"an interval with one coordinate and parts of two", 7, 4, 0, []api.Tap{tap(0, 1, 0), tap(1, 0, 1, 0), tap(3, 0, 1, 0), tap(5, 0, 1)}},
		{"the same, shift 3", 7, 4, 3, []api.Tap{tap(0, 5, 3), tap(1, 1, 5, 2), tap(3, 2, 5, 1), tap(5, 3, 5)}},
		{"MaxTaps weights", 8, 1, 14, []api.Tap{tap(0, 2048, 2048, 2048, 2048, 2048, 2048, 2048, 2048)}},
		{"MaxTaps weights, one of them of a half coordinate", 15, 2, 4, []api.Tap{tap(0, 3, 2, 2, 2, 2, 2, 2, 1), tap(7, 1, 3, 2, 2, 2, 2, 2, 2)}},
		{"shift 0 and equal fractional parts", 8, 1, 0, []api.Tap{tap(0, 1, 0, 0, 0, 0, 0, 0, 0)}},
		{"shift 0 and two coordinates", 4, 2, 0, []api.Tap{tap(0, 1, 0), tap(2, 1, 0)}},
		{"shift 1 and three coordinates", 3, 1, 1, []api.Tap{tap(0, 1, 1, 0)}},
		{"shift 2 and three coordinates", 3, 1, 2, []api.Tap{tap(0, 2, 1, 1)}},
		{"shift 3 and three coordinates", 3, 1, 3, []api.Tap{tap(0, 3, 3, 2)}},
		{"four are missing of seven", 7, 1, 5, []api.Tap{tap(0, 5, 5, 5, 5, 4, 4, 4)}},
		{"five are missing of six", 6, 1, 9, []api.Tap{tap(0, 86, 86, 85, 85, 85, 85)}},
		{"the last part has the greatest fractional part", 5, 3, 2, []api.Tap{tap(0, 2, 2), tap(1, 1, 2, 1), tap(3, 2, 2)}},
		{"the last part has the least fractional part", 5, 4, 3, []api.Tap{tap(0, 6, 2), tap(1, 5, 3), tap(2, 3, 5), tap(3, 2, 6)}},
	} {
		if got, code := Box(c.n, c.m, c.shift); !same(got, c.want) || code != api.OK {
			t.Errorf("%s: Box(%d, %d, %d) = %v, %d, want %v, OK", c.name, c.n, c.m, c.shift, got, code, c.want)
		}
	}
}

// sizes are the arguments of Box or Linear, and the code of the result.
type sizes struct {
	name        string
	n, m, shift int
	want        api.Code
}

// ends lists lengths and shifts at and just beyond their ends, and several errors at once.
var ends = []sizes{
	{"n is 1", 1, 5, 8, api.OK},
	{"n is 0", 0, 5, 8, api.ErrShape},
	{"n is MaxSide", side, 64, 8, api.OK},
	{"n is beyond MaxSide", side + 1, 64, 8, api.ErrShape},
	{"m is 1", 5, 1, 8, api.OK},
	{"m is 0", 5, 0, 8, api.ErrShape},
	{"m is MaxSide", 5, side, 8, api.OK},
	{"m is beyond MaxSide", 5, side + 1, 8, api.ErrShape},
	{"n and m are negative", -5, -5, 8, api.ErrShape},
	{"shift 0", 5, 5, 0, api.OK},
	{"shift -1", 5, 5, -1, api.ErrRange},
	{"shift 14", 5, 5, 14, api.OK},
	{"shift 15", 5, 5, 15, api.ErrRange},
	{"n and shift", 0, 5, 15, api.ErrShape},
	{"m and shift", 5, 0, -1, api.ErrShape},
	{"m is beyond MaxSide, and shift", 5, side + 1, 99, api.ErrShape},
	{"n is beyond MaxSide, and shift", side + 1, 5, 99, api.ErrShape},
}

// wantCodes compares the codes of Box or Linear with those of the cases and of ends, and with those for lengths and
// shifts that are out of range.
func wantCodes(t *testing.T, name string, f func(n, m, shift int) ([]api.Tap, api.Code), cases []sizes) {
	t.Helper()
	check := func(c sizes) {
		t.Helper()
		got, code := f(c.n, c.m, c.shift)
		if code != c.want || code == api.OK && len(got) != c.m || code != api.OK && len(got) > 0 {
			t.Errorf("%s: %s(%d, %d, %d) has %d taps and %d, want %d", c.name, name, c.n, c.m, c.shift, len(got), code, c.want)
		}
	}
	for _, c := range slices.Concat(ends, cases) {
		check(c)
	}
	for _, bad := range notSides {
		for _, shift := range append([]int{0, 8, 14}, notShifts...) {
			check(sizes{"n is out of range", bad, 5, shift, api.ErrShape})
			check(sizes{"m is out of range", 5, bad, shift, api.ErrShape})
			check(sizes{"n and m are out of range", bad, bad, shift, api.ErrShape})
		}
	}
	for _, shift := range notShifts {
		for _, n := range []int{1, 9, side} {
			for _, m := range []int{1, 9, side} {
				check(sizes{"the shift is out of range", n, m, shift, api.ErrRange})
			}
		}
	}
}

// P8.2: the errors, their order, and taps with about MaxTaps weights.
func TestBoxErrors(t *testing.T) {
	wantCodes(t, "Box", Box, []sizes{
		{"eight coordinates", 8, 1, 8, api.OK},
		{"nine coordinates", 9, 1, 8, api.ErrKernel},
		{"eight coordinates each, greatest n", side, 16, 8, api.OK},
		{"more than eight coordinates, greatest n", side, 15, 8, api.ErrKernel},
		{"greatest n in one", side, 1, 8, api.ErrKernel},
		{"eight coordinates and a part", 17, 2, 8, api.ErrKernel},
		{"seven coordinates and a part", 15, 2, 8, api.OK},
		{"six coordinates and parts of two", 22, 3, 8, api.OK},
		{"seven coordinates and parts of two, in the second tap", 23, 3, 8, api.ErrKernel},
		{"seven coordinates and parts of two, in the third tap", 37, 5, 8, api.ErrKernel},
		{"n is beyond MaxSide, and too many weights", side + 1, 1, 8, api.ErrShape},
		{"shift, and too many weights", side, 1, 15, api.ErrRange},
		{"shift below, and too many weights", 9, 1, -1, api.ErrRange},
		{"all at once", side + 1, 1, 15, api.ErrShape},
	})
}

// covered returns the First and the lengths of the tap i of a box, as multiples of 1 / m. The source is cut into n * m
// cells of this length, of which each output coordinate has n, and each source coordinate m.
func covered(n, m, i int) (int, []int) {
	first := i * n / m
	var lengths []int
	for cell := i * n; cell < (i+1)*n; cell++ {
		if k := cell / m; k-first == len(lengths) {
			lengths = append(lengths, 0)
		}
		lengths[len(lengths)-1]++
	}
	return first, lengths
}

// divided returns 2^shift divided in proportion to lengths with the sum n, by an order of all fractional parts.
func divided(lengths []int, n, shift int) []int {
	order := make([]int, len(lengths))
	weights := make([]int, len(lengths))
	for i, length := range lengths {
		order[i] = i
		weights[i] = length << shift / n
	}
	fraction := func(i int) int { return lengths[i]<<shift - weights[i]*n }
	slices.SortStableFunc(order, func(a, b int) int { return cmp.Compare(fraction(b), fraction(a)) })
	for _, i := range order[:1<<shift-sumOf(weights)] {
		weights[i]++
	}
	return weights
}

// P8.2 for all lengths, and the sums of the weights. (All shifts for short ones.)
func TestBoxByDefinition(t *testing.T) {
	counts := map[api.Code]int{}
	for n := 1; n <= side; n++ {
		for m := 1; m <= side; m++ {
			shifts := []int{0, 8, 14}
			if n <= 30 && m <= 30 {
				shifts = []int{0, 1, 2, 3, 4, 5, 6, 7, 8, 9, 10, 11, 12, 13, 14}
			}
			for _, shift := range shifts {
				counts[compareBox(t, n, m, shift)]++
			}
		}
	}
	if counts[api.OK] == 0 || counts[api.ErrKernel] == 0 {
		t.Errorf("the counts of the codes are %v", counts)
	}
}

// compareBox compares the taps of a box with those of the definition, and returns its code.
func compareBox(t *testing.T, n, m, shift int) api.Code {
	t.Helper()
	got, code := Box(n, m, shift)
	wantCode := api.OK
	for i := range m {
		first, lengths := covered(n, m, i)
		if len(lengths) > taps {
			wantCode = api.ErrKernel
			break
		}
		want := divided(lengths, n, shift)
		if i < len(got) && (got[i].First != first || !slices.Equal(got[i].Weights, want) || sumOf(got[i].Weights) != 1<<shift) {
			t.Fatalf("the tap %d of Box(%d, %d, %d) is %v, want %d, %v", i, n, m, shift, got[i], first, want)
		}
	}
	if code != wantCode || code == api.OK && len(got) != m || code != api.OK && len(got) > 0 {
		t.Fatalf("Box(%d, %d, %d) has %d taps and %d, want %d", n, m, shift, len(got), code, wantCode)
	}
	if code == api.OK && Valid(got, n) != api.OK {
		t.Fatalf("Box(%d, %d, %d) is not valid", n, m, shift)
	}
	return code
}

// P8.3.
func TestLinearCases(t *testing.T) {
	for _, c := range []struct {
		name        string
		n, m, shift int
		want        []api.Tap
	}{
		{"example 2", 2, 4, 8, []api.Tap{tap(-1, 64, 192), tap(0, 192, 64), tap(0, 64, 192), tap(1, 192, 64)}},
		{"one pixel", 1, 1, 8, []api.Tap{tap(0, 256, 0)}},
		{"one pixel, shift 0", 1, 1, 0, []api.Tap{tap(0, 1, 0)}},
		{"one pixel, shift 14", 1, 1, 14, []api.Tap{tap(0, 16384, 0)}},
		{"m equal to n", 3, 3, 8, []api.Tap{tap(0, 256, 0), tap(1, 256, 0), tap(2, 256, 0)}},
		{"m half of n", 6, 3, 8, []api.Tap{tap(0, 128, 128), tap(2, 128, 128), tap(4, 128, 128)}},
		{"m a third of n", 6, 2, 8, []api.Tap{tap(1, 256, 0), tap(4, 256, 0)}},
		{"m two thirds of n", 3, 2, 8, []api.Tap{tap(0, 192, 64), tap(1, 64, 192)}},
		{"one pixel to two", 1, 2, 8, []api.Tap{tap(-1, 64, 192), tap(0, 192, 64)}},
		{"one pixel to three", 1, 3, 8, []api.Tap{tap(-1, 85, 171), tap(0, 256, 0), tap(0, 171, 85)}},
		{"thirds of a pixel", 2, 3, 8, []api.Tap{tap(-1, 43, 213), tap(0, 128, 128), tap(1, 213, 43)}},
		{"an odd length to one", 5, 1, 3, []api.Tap{tap(2, 8, 0)}},
		{"an even length to one", 4, 1, 3, []api.Tap{tap(1, 4, 4)}},
		{"halves, shift 0", 4, 2, 0, []api.Tap{tap(0, 0, 1), tap(2, 0, 1)}},
		{"an eighth below and above a half, shift 0", 1, 4, 0, []api.Tap{tap(-1, 0, 1), tap(-1, 0, 1), tap(0, 1, 0), tap(0, 1, 0)}},
		{"quarters, shift 1", 2, 4, 1, []api.Tap{tap(-1, 0, 2), tap(0, 1, 1), tap(0, 0, 2), tap(1, 1, 1)}},
		{"odd eighths, shift 2", 1, 4, 2, []api.Tap{tap(-1, 1, 3), tap(-1, 0, 4), tap(0, 3, 1), tap(0, 2, 2)}},
		{"fractional parts on both sides of a half, shift 0", 11, 10, 0, []api.Tap{
			tap(0, 1, 0), tap(1, 1, 0), tap(2, 1, 0), tap(3, 1, 0), tap(4, 1, 0), tap(5, 0, 1), tap(6, 0, 1), tap(7, 0, 1), tap(8, 0, 1), tap(9, 0, 1),
		}},
	} {
		if got, code := Linear(c.n, c.m, c.shift); !same(got, c.want) || code != api.OK {
			t.Errorf("%s: Linear(%d, %d, %d) = %v, %d, want %v, OK", c.name, c.n, c.m, c.shift, got, code, c.want)
		}
	}
}

// P8.3: the ends of long tables.
func TestLinearEnds(t *testing.T) {
	for _, c := range []struct {
		name        string
		n, m, shift int
		first, last api.Tap
	}{
		{"one pixel to MaxSide, shift 0: one beside a half", 1, side, 0, tap(-1, 0, 1), tap(0, 1, 0)},
		{"one pixel to MaxSide, shift 7: the fractional parts 64.5 and 63.5", 1, side, 7, tap(-1, 63, 65), tap(0, 64, 64)},
		{"one pixel to MaxSide, shift 8", 1, side, 8, tap(-1, 127, 129), tap(0, 129, 127)},
		{"MaxSide to MaxSide", side, side, 14, tap(0, 16384, 0), tap(127, 16384, 0)},
		{"MaxSide to one", side, 1, 14, tap(63, 8192, 8192), tap(63, 8192, 8192)},
		{"MaxSide to one less", side, side - 1, 14, tap(0, 16319, 65), tap(126, 65, 16319)},
		{"MaxSide to one less, shift 6: rounded to 0 and 1", side, side - 1, 6, tap(0, 64, 0), tap(126, 0, 64)},
		{"one less to MaxSide", side - 1, side, 14, tap(-1, 64, 16320), tap(126, 16320, 64)},
		{"one less to MaxSide, shift 7: halves beside both ends", side - 1, side, 7, tap(-1, 0, 128), tap(126, 127, 1)},
		{"one less to MaxSide, shift 6", side - 1, side, 6, tap(-1, 0, 64), tap(126, 64, 0)},
	} {
		got, code := Linear(c.n, c.m, c.shift)
		if code != api.OK || len(got) != c.m || !same([]api.Tap{got[0], got[c.m-1]}, []api.Tap{c.first, c.last}) {
			t.Errorf("%s: Linear(%d, %d, %d) = %v, %d, want %v to %v", c.name, c.n, c.m, c.shift, got, code, c.first, c.last)
		}
	}
}

// P8.3: the errors and their order. No length has too many weights.
func TestLinearErrors(t *testing.T) {
	wantCodes(t, "Linear", Linear, []sizes{
		{"nine coordinates", 9, 1, 8, api.OK},
		{"greatest n in one", side, 1, 8, api.OK},
		{"shift, and greatest n in one", side, 1, 15, api.ErrRange},
	})
}

// P8.3 for all lengths and shifts, by comparisons of products, with the sums of the weights. Positions below 0 and
// beyond the last coordinate, and halves, are among them.
func TestLinearByDefinition(t *testing.T) {
	below, beyond, halves := 0, 0, 0
	for n := 1; n <= side; n++ {
		for m := 1; m <= side; m++ {
			for shift := range 15 {
				got, code := Linear(n, m, shift)
				if code != api.OK || len(got) != m || Valid(got, n) != api.OK {
					t.Fatalf("Linear(%d, %d, %d) = %v, %d", n, m, shift, got, code)
				}
				for i, tap := range got {
					if !isLinear(tap, (2*i+1)*n-m, 2*m, shift) {
						t.Fatalf("the tap %d of Linear(%d, %d, %d) is %v", i, n, m, shift, tap)
					}
					position := (2*i+1)*n - m
					if position < 0 {
						below++
					}
					if position > (n-1)*2*m {
						beyond++
					}
					if (position+2*m)<<shift%(2*m) == m {
						halves++
					}
				}
			}
		}
	}
	if below == 0 || beyond != below || halves == 0 {
		t.Errorf("%d positions below 0, %d beyond the last coordinate, %d halves", below, beyond, halves)
	}
}

// isLinear reports whether the tap is that of the position a / b.
func isLinear(tap api.Tap, a, b, shift int) bool {
	if tap.First*b > a || a >= (tap.First+1)*b || len(tap.Weights) != 2 || sumOf(tap.Weights) != 1<<shift {
		return false
	}
	// The fractional part times 2^shift is from second - 1/2, a half that is rounded up to second, to less than
	// second + 1/2.
	fraction, second := a-tap.First*b, tap.Weights[1]
	return (2*second-1)*b <= 2*fraction<<shift && 2*fraction<<shift < (2*second+1)*b
}

// The consequence: with m equal to n there is the weight 2^shift at each coordinate's own.
func TestOwnCoordinates(t *testing.T) {
	for n := 1; n <= side; n++ {
		for shift := range 15 {
			box, _ := Box(n, n, shift)
			linear, _ := Linear(n, n, shift)
			for i := range n {
				if !same(box[i:i+1], []api.Tap{tap(i, 1<<shift)}) || !same(linear[i:i+1], []api.Tap{tap(i, 1<<shift, 0)}) {
					t.Fatalf("the taps %d of %d with the shift %d are %v and %v", i, n, shift, box[i], linear[i])
				}
			}
		}
	}
}

func bitsOf(l ...float64) []uint64 {
	all := make([]uint64, len(l))
	for i, f := range l {
		all[i] = math.Float64bits(f)
	}
	return all
}

// P8.4.
func TestQuantizedCases(t *testing.T) {
	third, one, blur := bitsOf(1.0/3, 1.0/3, 1.0/3), bitsOf(1), bitsOf(0.25, 0.5, 0.25)
	for _, c := range []struct {
		name  string
		first []int
		l     [][]uint64
		shift int
		want  []api.Tap
	}{
		{"one tap", []int{3}, [][]uint64{blur}, 8, []api.Tap{tap(3, 64, 128, 64)}},
		{"different taps", []int{-1, 5, 0}, [][]uint64{third, one, blur}, 8, []api.Tap{tap(-1, 86, 85, 85), tap(5, 256), tap(0, 64, 128, 64)}},
		{"shift 0", []int{0}, [][]uint64{one}, 0, []api.Tap{tap(0, 1)}},
		{"shift 14", []int{0}, [][]uint64{one}, 14, []api.Tap{tap(0, 1<<14)}},
		{"shift 15", []int{0}, [][]uint64{bitsOf(0.5, 0.5)}, 15, []api.Tap{tap(0, 1<<14, 1<<14)}},
		{"negative weights", []int{2}, [][]uint64{bitsOf(-0.25, 1.5, -0.25)}, 4, []api.Tap{tap(2, -4, 24, -4)}},
		{"both ends of First", []int{-side, 2 * side}, [][]uint64{one, one}, 1, []api.Tap{tap(-side, 2), tap(2*side, 2)}},
		{"one beside both ends of First", []int{-side + 1, 2*side - 1}, [][]uint64{one, one}, 1, []api.Tap{tap(-side+1, 2), tap(2*side-1, 2)}},
		{"equal Firsts", []int{4, 4}, [][]uint64{one, blur}, 2, []api.Tap{tap(4, 4), tap(4, 1, 2, 1)}},
		{"descending Firsts", []int{9, 1}, [][]uint64{one, one}, 2, []api.Tap{tap(9, 4), tap(1, 4)}},
		{"MaxTaps values", []int{0}, [][]uint64{slices.Repeat(bitsOf(0.125), taps)}, 3, []api.Tap{tap(0, 1, 1, 1, 1, 1, 1, 1, 1)}},
		{"MaxSide taps", slices.Repeat([]int{7}, side), slices.Repeat([][]uint64{one}, side), 3, alike(tap(7, 8), side)},
	} {
		if got, code := Quantized(c.first, c.l, c.shift); !same(got, c.want) || code != api.OK {
			t.Errorf("%s: Quantized(%v, %#x, %d) = %v, %d, want %v, OK", c.name, c.first, c.l, c.shift, got, code, c.want)
		}
	}
}

// P8.4: lists of different lengths, none or too many taps, also with other errors.
func TestQuantizedShape(t *testing.T) {
	one := bitsOf(1)
	for _, c := range []struct {
		name     string
		first, l int
		want     api.Code
	}{
		{"one each", 1, 1, api.OK},
		{"MaxSide each", side, side, api.OK},
		{"none", 0, 0, api.ErrShape},
		{"no Firsts", 0, 1, api.ErrShape},
		{"no lists", 1, 0, api.ErrShape},
		{"one First more", 3, 2, api.ErrShape},
		{"one list more", 2, 3, api.ErrShape},
		{"one First beyond MaxSide", side + 1, side, api.ErrShape},
		{"one list beyond MaxSide", side, side + 1, api.ErrShape},
		{"one beyond MaxSide", side + 1, side + 1, api.ErrShape},
		{"many", 5000, 5000, api.ErrShape},
	} {
		first, l := make([]int, c.first), slices.Repeat([][]uint64{one}, c.l)
		got, code := Quantized(first, l, 8)
		if code != c.want || code == api.OK && len(got) != c.l || code != api.OK && len(got) > 0 {
			t.Errorf("%s: Quantized of %d Firsts and %d lists has %d taps and %d, want %d", c.name, c.first, c.l, len(got), code, c.want)
		}
		if code == api.OK {
			continue
		}
		// ErrShape comes before each error of a tap.
		for _, shift := range []int{-1, 8, 15, 25} {
			far, bad := slices.Repeat([]int{999}, c.first), slices.Repeat([][]uint64{bitsOf(math.NaN())}, c.l)
			for _, got := range []func() ([]api.Tap, api.Code){
				func() ([]api.Tap, api.Code) { return Quantized(far, l, shift) },
				func() ([]api.Tap, api.Code) { return Quantized(first, bad, shift) },
				func() ([]api.Tap, api.Code) { return Quantized(far, make([][]uint64, c.l), shift) },
			} {
				if table, code := got(); len(table) > 0 || code != api.ErrShape {
					t.Errorf("%s, and another error: Quantized = %v, %d, want nothing, ErrShape", c.name, table, code)
				}
			}
		}
	}
	if got, code := Quantized(nil, nil, 8); len(got) > 0 || code != api.ErrShape {
		t.Errorf("Quantized of nil = %v, %d, want nothing, ErrShape", got, code)
	}
}

// faulty lists values with the errors of ieee.Quantize for the shift 8.
func faulty() map[api.Code][][]uint64 {
	return map[api.Code][][]uint64{
		api.ErrLimit:    {nil, {}, slices.Repeat(bitsOf(1.0/9), taps+1)},
		api.ErrInvalid:  {bitsOf(math.Inf(1)), bitsOf(math.Inf(-1)), bitsOf(0.5, math.NaN())},
		api.ErrOverflow: {bitsOf(128), bitsOf(-128, 129), bitsOf(1e300), bitsOf(127.99609375, -127.99609375, 0, 0, 0, 0, 0, 1-1.0/256)},
		api.ErrWeight:   {bitsOf(0), bitsOf(0.25, 0.25), bitsOf(2)},
	}
}

// P8.4: each error of Quantize and each First that is out of range, one tap alone, and one before or behind another.
func TestQuantizedOrder(t *testing.T) {
	one := bitsOf(1)
	want := func(first []int, l [][]uint64, shift int, want api.Code) {
		t.Helper()
		if got, code := Quantized(first, l, shift); len(got) > 0 || code != want {
			t.Errorf("Quantized(%v, %#x, %d) = %v, %d, want nothing, %d", first, l, shift, got, code, want)
		}
	}
	far := []int{-side - 1, 2*side + 1, -2 * side, 999, -999, 1 << 32, math.MinInt, math.MaxInt}
	for _, f := range far {
		want([]int{f}, [][]uint64{one}, 8, api.ErrRange)
		want([]int{0, 1, f}, [][]uint64{one, one, one}, 8, api.ErrRange)
		for code, lists := range faulty() {
			for _, values := range lists {
				want([]int{0}, [][]uint64{values}, 8, code)
				want([]int{f}, [][]uint64{values}, 8, api.ErrRange)
				want([]int{0, f}, [][]uint64{values, one}, 8, code)
				want([]int{0, 0, f}, [][]uint64{one, values, one}, 8, code)
				want([]int{f, 0}, [][]uint64{one, values}, 8, api.ErrRange)
				want([]int{0, f, 0}, [][]uint64{one, one, values}, 8, api.ErrRange)
			}
		}
	}
	// The first list that has an error decides.
	for code, lists := range faulty() {
		for _, next := range faulty() {
			want([]int{0, 0}, [][]uint64{lists[0], next[0]}, 8, code)
			want([]int{0, 0, 0}, [][]uint64{one, lists[1], next[1]}, 8, code)
		}
	}
}

// P8.4: shifts at and just beyond their ends. A shift that is out of range comes before a list's own errors.
func TestQuantizedShifts(t *testing.T) {
	thin := slices.Repeat(bitsOf(0.125), taps)
	for _, c := range []struct {
		name  string
		l     []uint64
		shift int
		want  api.Code
	}{
		{"shift -1", thin, -1, api.ErrRange},
		{"shift 0", bitsOf(1), 0, api.OK},
		{"a sum of 1 with the shift 14", bitsOf(1), 14, api.OK},
		{"a weight beyond MaxWeight with the shift 15", bitsOf(1), 15, api.ErrOverflow},
		{"eight weights with the shift 17", thin, 17, api.OK},
		{"eight weights with the shift 18", thin, 18, api.ErrOverflow},
		{"MaxShift", thin, api.MaxShift, api.ErrOverflow},
		{"MaxShift and a sum that is too small", bitsOf(0), api.MaxShift, api.ErrWeight},
		{"beyond MaxShift", thin, api.MaxShift + 1, api.ErrRange},
		{"beyond MaxShift, and no values", nil, api.MaxShift + 1, api.ErrRange},
		{"beyond MaxShift, and not a number", bitsOf(math.NaN()), math.MaxInt, api.ErrRange},
		{"least int", bitsOf(1), math.MinInt, api.ErrRange},
	} {
		got, code := Quantized([]int{5}, [][]uint64{c.l}, c.shift)
		weights, _ := ieee.Quantize(c.l, c.shift)
		if code != c.want || code != api.OK && len(got) > 0 || code == api.OK && !same(got, []api.Tap{tap(5, weights...)}) {
			t.Errorf("%s: Quantized of %#x with the shift %d = %v, %d, want %d", c.name, c.l, c.shift, got, code, c.want)
		}
	}
}

// The consequence: the weights of a quantized tap have the sum 2^shift.
func TestQuantizedSums(t *testing.T) {
	l := [][]uint64{bitsOf(1.0/3, 1.0/3, 1.0/3), bitsOf(0.1, 0.2, 0.3, 0.4), bitsOf(-0.1, 1.1), bitsOf(1)}
	for shift := range 15 {
		got, code := Quantized([]int{0, 1, 2, 3}, l, shift)
		if code != api.OK || len(got) != len(l) || Valid(got, 5) != api.OK {
			t.Fatalf("Quantized with the shift %d = %v, %d", shift, got, code)
		}
		for i, tap := range got {
			weights, _ := ieee.Quantize(l[i], shift)
			if tap.First != i || sumOf(tap.Weights) != 1<<shift || !slices.Equal(tap.Weights, weights) {
				t.Errorf("the tap %d of Quantized with the shift %d is %v, want %v", i, shift, tap, weights)
			}
		}
	}
}

// R2: the arguments stay as they are, the space behind them too.
func TestArgumentsStay(t *testing.T) {
	weights := []int{1, 2, 3, weight + 1}
	table := []api.Tap{tap(3, weights[:3]...), tap(0, 5), tap(999, 7)}
	before := []api.Tap{tap(3, 1, 2, 3), tap(0, 5), tap(999, 7)}
	if code := Valid(table[:2], 5); code != api.OK || !same(table, before) || !slices.Equal(weights, []int{1, 2, 3, weight + 1}) {
		t.Errorf("Valid = %d, and the table is %v, of %v", code, table, weights)
	}
	first, values := []int{4, 5, 6}, bitsOf(1.0/3, 1.0/3, 1.0/3, 9)
	l := [][]uint64{values[:3], values[:3], nil}
	if _, code := Quantized(first[:2], l[:2], 8); code != api.OK {
		t.Errorf("Quantized = %d", code)
	}
	if !slices.Equal(first, []int{4, 5, 6}) || !slices.Equal(values, bitsOf(1.0/3, 1.0/3, 1.0/3, 9)) || len(l[0]) != 3 || len(l[1]) != 3 || len(l[2]) > 0 {
		t.Errorf("the arguments are %v, %#x, %#x", first, values, l)
	}
}

// R2: results share no memory, neither their taps nor with other results.
func TestResultsAreNew(t *testing.T) {
	for _, c := range []struct {
		name string
		f    func() ([]api.Tap, api.Code)
	}{
		{"Box", func() ([]api.Tap, api.Code) { return Box(5, 9, 8) }},
		{"Box of equal taps", func() ([]api.Tap, api.Code) { return Box(1, 4, 3) }},
		{"Linear", func() ([]api.Tap, api.Code) { return Linear(5, 9, 8) }},
		{"Quantized", func() ([]api.Tap, api.Code) {
			values := bitsOf(0.25, 0.75)
			return Quantized([]int{1, 2, 3}, [][]uint64{values, values, values}, 8)
		}},
	} {
		first, _ := c.f()
		second, _ := c.f()
		before := make([][]int, len(second))
		for i, tap := range second {
			before[i] = slices.Clone(tap.Weights)
		}
		for i := range first {
			first[i].First = -77
			for k := range first[i].Weights {
				first[i].Weights[k] = -i - 1
			}
		}
		// The space behind the weights of a tap must not be that of another one.
		for i := range first {
			_ = append(first[i].Weights, 99)
		}
		for i := range first {
			if !slices.Equal(first[i].Weights, slices.Repeat([]int{-i - 1}, len(before[i]))) {
				t.Errorf("%s: writing into other taps changes the tap %d to %v", c.name, i, first[i])
			}
			if !slices.Equal(second[i].Weights, before[i]) {
				t.Errorf("%s: writing into one result changes the tap %d of another one to %v", c.name, i, second[i])
			}
		}
		third, code := c.f()
		if !same(third, second) || code != api.OK {
			t.Errorf("%s: after writing into a result it is %v, %d, want %v", c.name, third, code, second)
		}
	}
}
