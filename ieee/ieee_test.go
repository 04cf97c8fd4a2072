package ieee

import (
	"fmt"
	"math"
	"math/big"
	"slices"
	"testing"

	"tilefarm/api"
)

// The bits of values at the ends of their classes. With the sign, they are those of the negative values.
const (
	sign           = 1 << 63
	leastSubnormal = 1
	mostSubnormal  = 1<<52 - 1
	leastNormal    = 1 << 52
	mostNormal     = 2047<<52 - 1
	infinity       = 2047 << 52
	firstNaN       = 2047<<52 + 1
	quietNaN       = 2047<<52 + 1<<51
	lastNaN        = 1<<63 - 1
)

func of(f float64) uint64 { return math.Float64bits(f) }

func list(l ...float64) []uint64 {
	all := make([]uint64, len(l))
	for i, f := range l {
		all[i] = of(f)
	}
	return all
}

func repeated(f float64, count int) []uint64 { return slices.Repeat(list(f), count) }

// ascending lists values by their size; the zero with the sign is not among them.
var ascending = []uint64{
	sign | infinity, sign | mostNormal, sign | mostNormal - 1, of(-1e300), of(-3), of(-2), sign | (of(1) + 1), of(-1),
	sign | (of(1) - 1), of(-0.5), of(-1e-300), sign | leastNormal + 1, sign | leastNormal, sign | mostSubnormal,
	sign | mostSubnormal - 1, sign | 2, sign | leastSubnormal,
	0, leastSubnormal, 2, mostSubnormal - 1, mostSubnormal, leastNormal, leastNormal + 1, of(1e-300), of(0.5), of(1) - 1,
	of(1), of(1) + 1, of(2), of(3), of(1e300), mostNormal - 1, mostNormal, infinity,
}

// notNumbers lists bits that are not a number.
var notNumbers = []uint64{
	firstNaN, firstNaN + 1, quietNaN - 1, quietNaN, quietNaN + 1, lastNaN,
	sign | firstNaN, sign | quietNaN, sign | lastNaN,
}

// notShifts lists numbers that are not from 0 to MaxShift.
var notShifts = []int{-1, -2, -24, -64, api.MaxShift + 1, 32, 63, 64, 1 << 32, math.MinInt, math.MaxInt}

// sweep calls f with bits of the exponent, with both signs and with fractions that differ in number and place of bits.
func sweep(exponent uint64, f func(b uint64)) {
	for _, fraction := range []uint64{
		0, 1, 2, 3, 4, 6, 1<<26 - 1, 1 << 26, 1<<51 - 1, 1 << 51, 1<<51 + 1, 3 << 50, 0x5555555555555, 0xaaaaaaaaaaaaa,
		1<<52 - 2, 1<<52 - 1,
	} {
		f(exponent<<52 | fraction)
		f(sign | exponent<<52 | fraction)
	}
}

// units returns the finite value in units of 2^-1074, by the chapter's definition.
func units(b uint64) *big.Int {
	exponent, fraction := uint(b>>52&2047), b&(1<<52-1)
	n := new(big.Int).SetUint64(fraction)
	if exponent > 0 {
		n.Add(n, new(big.Int).Lsh(big.NewInt(1), 52))
		n.Lsh(n, exponent-1)
	}
	if b>>63 == 1 {
		n.Neg(n)
	}
	return n
}

// scaled returns the integer that is nearest to the finite value times 2^shift, and of two nearest ones the even one, by
// exact quotients.
func scaled(b uint64, shift int) *big.Int {
	n := units(b)
	n.Lsh(n, uint(shift))
	unit := new(big.Int).Lsh(big.NewInt(1), 1074)
	// Div rounds down for a positive divisor, and Mod is not negative.
	floor, rest := new(big.Int).DivMod(n, unit, new(big.Int))
	above := new(big.Int).Sub(unit, rest)
	switch rest.Cmp(above) {
	case -1:
		return floor
	case 0:
		if floor.Bit(0) == 0 {
			return floor
		}
	}
	return floor.Add(floor, big.NewInt(1))
}

// P6.1: Class.
func TestClassCases(t *testing.T) {
	for _, c := range []struct {
		name string
		bits uint64
		want int
	}{
		{"zero", 0, 0},
		{"least subnormal", leastSubnormal, 1},
		{"a fraction of one high bit", 1 << 51, 1},
		{"greatest subnormal", mostSubnormal, 1},
		{"least normal", leastNormal, 2},
		{"one", of(1), 2},
		{"a tenth", of(0.1), 2},
		{"exponent 1024", 1024 << 52, 2},
		{"exponent 2046", 2046 << 52, 2},
		{"greatest finite", mostNormal, 2},
		{"infinite", infinity, 3},
		{"first that is not a number", firstNaN, 4},
		{"quiet", quietNaN, 4},
		{"not a number by one bit in the middle", infinity | 1<<30, 4},
		{"last that is not a number", lastNaN, 4},
	} {
		if got := Class(c.bits); got != c.want {
			t.Errorf("%s: Class(%#x) = %d, want %d", c.name, c.bits, got, c.want)
		}
		if got := Class(sign | c.bits); got != c.want {
			t.Errorf("%s, with the sign: Class(%#x) = %d, want %d", c.name, sign|c.bits, got, c.want)
		}
	}
}

// P6.1: Class for every exponent, against float64.
func TestClassByFloat(t *testing.T) {
	for exponent := range uint64(2048) {
		sweep(exponent, func(b uint64) {
			f, want := math.Float64frombits(b), 2
			switch {
			case f == 0:
				want = 0
			case math.IsNaN(f):
				want = 4
			case math.IsInf(f, 0):
				want = 3
			case math.Abs(f) < 0x1p-1022:
				want = 1
			}
			if got := Class(b); got != want {
				t.Fatalf("Class(%#x) = %d, want %d", b, got, want)
			}
		})
	}
}

// P6.1: Parts.
func TestPartsCases(t *testing.T) {
	for _, c := range []struct {
		name string
		bits uint64
		m, e int
	}{
		{"zero", 0, 0, 0},
		{"least subnormal", leastSubnormal, 1, -1074},
		{"second subnormal", 2, 1, -1073},
		{"third subnormal", 3, 3, -1074},
		{"subnormal of one high bit", 1 << 51, 1, -1023},
		{"greatest subnormal", mostSubnormal, 1<<52 - 1, -1074},
		{"least normal", leastNormal, 1, -1022},
		{"the one after the least normal", leastNormal + 1, 1<<52 + 1, -1074},
		{"exponent 2", 2 << 52, 1, -1021},
		{"half", of(0.5), 1, -1},
		{"one", of(1), 1, 0},
		{"one before one", of(1) - 1, 1<<53 - 1, -53},
		{"one after one", of(1) + 1, 1<<52 + 1, -52},
		{"two", of(2), 1, 1},
		{"three", of(3), 3, 0},
		{"six", of(6), 3, 1},
		{"three quarters", of(0.75), 3, -2},
		{"greatest power", 2046 << 52, 1, 1023},
		{"greatest finite", mostNormal, 1<<53 - 1, 971},
	} {
		if m, e, ok := Parts(c.bits); m != c.m || e != c.e || !ok {
			t.Errorf("%s: Parts(%#x) = %d, %d, %v, want %d, %d, true", c.name, c.bits, m, e, ok, c.m, c.e)
		}
		if m, e, ok := Parts(sign | c.bits); m != -c.m || e != c.e || !ok {
			t.Errorf("%s, with the sign: Parts(%#x) = %d, %d, %v, want %d, %d, true", c.name, sign|c.bits, m, e, ok, -c.m, c.e)
		}
	}
}

// P6.1: Parts of values that are not finite.
func TestPartsNone(t *testing.T) {
	for _, b := range append([]uint64{infinity, sign | infinity}, notNumbers...) {
		if m, e, ok := Parts(b); m != 0 || e != 0 || ok {
			t.Errorf("Parts(%#x) = %d, %d, %v, want 0, 0, false", b, m, e, ok)
		}
	}
}

// P6.1: Parts for every exponent of finite values: m is odd, and m * 2^e is exactly the value.
func TestPartsAreExact(t *testing.T) {
	for exponent := range uint64(2047) {
		sweep(exponent, func(b uint64) {
			m, e, ok := Parts(b)
			if b&^sign == 0 {
				if m != 0 || e != 0 || !ok {
					t.Fatalf("Parts(%#x) = %d, %d, %v, want 0, 0, true", b, m, e, ok)
				}
				return
			}
			if !ok || m%2 == 0 || e < -1074 {
				t.Fatalf("Parts(%#x) = %d, %d, %v", b, m, e, ok)
			}
			value := big.NewInt(int64(m))
			if value.Lsh(value, uint(e+1074)).Cmp(units(b)) != 0 {
				t.Fatalf("Parts(%#x) = %d, %d, which is another value", b, m, e)
			}
		})
	}
}

// P6.2: all pairs of values, adjacent ones and those that differ in the sign alone among them.
func TestCompareAscending(t *testing.T) {
	for i, a := range ascending {
		for k, b := range ascending {
			want := 0
			if i < k {
				want = -1
			} else if i > k {
				want = 1
			}
			if got, ok := Compare(a, b); got != want || !ok {
				t.Errorf("Compare(%#x, %#x) = %d, %v, want %d, true", a, b, got, ok, want)
			}
		}
	}
}

// P6.2: the zeros are equal, and compare in the same way with all others.
func TestCompareZeros(t *testing.T) {
	for _, p := range [][2]uint64{{0, 0}, {0, sign}, {sign, 0}, {sign, sign}} {
		if got, ok := Compare(p[0], p[1]); got != 0 || !ok {
			t.Errorf("Compare(%#x, %#x) = %d, %v, want 0, true", p[0], p[1], got, ok)
		}
	}
	for _, b := range ascending {
		got, ok := Compare(sign, b)
		if want, _ := Compare(0, b); got != want || !ok {
			t.Errorf("Compare(%#x, %#x) = %d, %v, want %d, true", uint64(sign), b, got, ok, want)
		}
		got, ok = Compare(b, sign)
		if want, _ := Compare(b, 0); got != want || !ok {
			t.Errorf("Compare(%#x, %#x) = %d, %v, want %d, true", b, uint64(sign), got, ok, want)
		}
	}
}

// P6.2: what is not a number is compared with nothing, itself and infinite values included.
func TestCompareNotNumbers(t *testing.T) {
	others := slices.Concat(ascending, notNumbers, []uint64{sign})
	for _, a := range notNumbers {
		for _, b := range others {
			if got, ok := Compare(a, b); got != 0 || ok {
				t.Errorf("Compare(%#x, %#x) = %d, %v, want 0, false", a, b, got, ok)
			}
			if got, ok := Compare(b, a); got != 0 || ok {
				t.Errorf("Compare(%#x, %#x) = %d, %v, want 0, false", b, a, got, ok)
			}
		}
	}
}

// P6.2: Compare by the exact values, for bits with every pair of some exponents.
func TestCompareIsExact(t *testing.T) {
	var all []uint64
	for _, exponent := range []uint64{0, 1, 2, 1022, 1023, 2045, 2046} {
		sweep(exponent, func(b uint64) { all = append(all, b) })
	}
	values := make([]*big.Int, len(all))
	for i, b := range all {
		values[i] = units(b)
	}
	for i, a := range all {
		for k, b := range all {
			if got, ok := Compare(a, b); got != values[i].Cmp(values[k]) || !ok {
				t.Fatalf("Compare(%#x, %#x) = %d, %v", a, b, got, ok)
			}
		}
	}
}

// P6.3.
func TestScaleCases(t *testing.T) {
	for _, c := range []struct {
		name  string
		bits  uint64
		shift int
		want  int
	}{
		{"the chapter's tenth", of(0.1), 10, 102},
		{"the chapter's half", of(0.5), 0, 0},
		{"the chapter's half behind an odd integer", of(1.5), 0, 2},
		{"a half behind an even integer", of(2.5), 0, 2},
		{"one bit above a half", of(0.5) + 1, 0, 1},
		{"one bit below a half", of(0.5) - 1, 0, 0},
		{"one bit below a half behind an odd integer", of(1.5) - 1, 0, 1},
		{"one bit above a half behind an even integer", of(2.5) + 1, 0, 3},
		{"an integer", of(3), 0, 3},
		{"an integer, shifted", of(3), 4, 48},
		{"a fraction, shifted to an integer", of(0.375), 3, 3},
		{"a fraction, shifted to a half", of(0.375), 2, 2},
		{"a quarter", of(0.25), 0, 0},
		{"three quarters", of(0.75), 0, 1},
		{"zero", 0, 0, 0},
		{"zero with the greatest shift", 0, api.MaxShift, 0},
		{"least subnormal", leastSubnormal, 0, 0},
		{"least subnormal with the greatest shift", leastSubnormal, api.MaxShift, 0},
		{"greatest subnormal", mostSubnormal, api.MaxShift, 0},
		{"least normal", leastNormal, api.MaxShift, 0},
		{"all 53 bits below a half", of(0x1p-25) - 1, api.MaxShift, 0},
		{"a half with the greatest shift", of(0x1p-25), api.MaxShift, 0},
		{"one bit above a half with the greatest shift", of(0x1p-25) + 1, api.MaxShift, 1},
		{"one with the greatest shift", of(0x1p-24), api.MaxShift, 1},
		{"one and a half with the greatest shift", of(0x1.8p-24), api.MaxShift, 2},
		{"greatest power", of(1), 14, 16384},
		{"greatest result", of(32767), 0, 32767},
		{"greatest result, shifted", of(32767.0 / 32768), 15, 32767},
		{"greatest result with the greatest shift", of(32767.0 / (1 << 24)), api.MaxShift, 32767},
		{"above the greatest result by less than a half", of(32767.5) - 1, 0, 32767},
		{"above the greatest result by a quarter", of(32767.25), 0, 32767},
		{"one before the greatest result", of(32766), 0, 32766},
		{"a half below the greatest result", of(32766.5), 0, 32766},
		{"one bit above a half below the greatest result", of(32766.5) + 1, 0, 32767},
	} {
		if got, code := Scale(c.bits, c.shift); got != c.want || code != api.OK {
			t.Errorf("%s: Scale(%#x, %d) = %d, %d, want %d, OK", c.name, c.bits, c.shift, got, code, c.want)
		}
		if got, code := Scale(sign|c.bits, c.shift); got != -c.want || code != api.OK {
			t.Errorf("%s, with the sign: Scale(%#x, %d) = %d, %d, want %d, OK", c.name, sign|c.bits, c.shift, got, code, -c.want)
		}
	}
}

// P6.3: results beyond MaxWeight, with each sign.
func TestScaleOverflow(t *testing.T) {
	for _, c := range []struct {
		name  string
		bits  uint64
		shift int
	}{
		{"a half above the greatest result", of(32767.5), 0},
		{"one bit above that", of(32767.5) + 1, 0},
		{"one above the greatest result", of(32768), 0},
		{"one above the greatest result, shifted", of(1), 15},
		{"a half above the greatest result, shifted", of(32767.5 / 32768), 15},
		{"a half above the greatest result with the greatest shift", of(32767.5 / (1 << 24)), api.MaxShift},
		{"one bit below 32768", of(32768) - 1, 0},
		{"one with the greatest shift", of(1), api.MaxShift},
		{"an odd number of 53 bits", of(1<<53 - 1), 0},
		{"an odd number of 53 bits with the greatest shift", of(1<<53 - 1), api.MaxShift},
		{"2^31", of(1 << 31), 0},
		{"2^62", of(1 << 62), 0},
		{"2^63", of(1 << 63), 0},
		{"2^64", of(1 << 64), 0},
		{"2^64 by the shift", of(1 << 40), api.MaxShift},
		{"three times 2^63", of(3 << 63), 0},
		{"1e300", of(1e300), 0},
		{"greatest power", 2046 << 52, 0},
		{"greatest finite", mostNormal, 0},
		{"greatest finite with the greatest shift", mostNormal, api.MaxShift},
	} {
		for _, b := range []uint64{c.bits, sign | c.bits} {
			if got, code := Scale(b, c.shift); got != 0 || code != api.ErrOverflow {
				t.Errorf("%s: Scale(%#x, %d) = %d, %d, want 0, ErrOverflow", c.name, b, c.shift, got, code)
			}
		}
	}
}

// P6.3: values that are not finite, and shifts that are out of range, which are named before.
func TestScaleInvalid(t *testing.T) {
	notFinite := append([]uint64{infinity, sign | infinity}, notNumbers...)
	for _, b := range notFinite {
		for shift := range api.MaxShift + 1 {
			if got, code := Scale(b, shift); got != 0 || code != api.ErrInvalid {
				t.Errorf("Scale(%#x, %d) = %d, %d, want 0, ErrInvalid", b, shift, got, code)
			}
		}
	}
	for _, b := range slices.Concat(ascending, notFinite, []uint64{sign}) {
		for _, shift := range notShifts {
			if got, code := Scale(b, shift); got != 0 || code != api.ErrRange {
				t.Errorf("Scale(%#x, %d) = %d, %d, want 0, ErrRange", b, shift, got, code)
			}
		}
	}
}

// P6.3: every half between two integers up to beyond MaxWeight, with every shift, and the values one bit beside it.
func TestScaleHalves(t *testing.T) {
	for shift := range api.MaxShift + 1 {
		for n := range api.MaxWeight + 2 {
			b := of(math.Ldexp(float64(n)+0.5, -shift))
			even := n + n%2
			for _, c := range []struct {
				bits uint64
				want int
			}{{b - 1, n}, {b, even}, {b + 1, n + 1}} {
				compareScale(t, c.bits, shift, c.want)
				compareScale(t, sign|c.bits, shift, -c.want)
			}
		}
	}
}

// compareScale compares Scale with the nearest integer, which may be beyond MaxWeight.
func compareScale(t *testing.T, b uint64, shift, nearest int) {
	t.Helper()
	want, wantCode := nearest, api.OK
	if nearest < -api.MaxWeight || nearest > api.MaxWeight {
		want, wantCode = 0, api.ErrOverflow
	}
	if got, code := Scale(b, shift); got != want || code != wantCode {
		t.Fatalf("Scale(%#x, %d) = %d, %d, want %d, %d", b, shift, got, code, want, wantCode)
	}
}

// P6.3: Scale by exact quotients, for all shifts and for the exponents around those of results from 1 to MaxWeight.
func TestScaleIsExact(t *testing.T) {
	exponents := []uint64{0, 1, 2, 500, 1100, 1500, 2045, 2046}
	for exponent := uint64(1023 - 82); exponent <= 1023+70; exponent++ {
		exponents = append(exponents, exponent)
	}
	beyond := big.NewInt(api.MaxWeight + 1)
	for _, exponent := range exponents {
		for shift := range api.MaxShift + 1 {
			sweep(exponent, func(b uint64) {
				exact := scaled(b, shift)
				// A result that does not fit in an int is replaced by one that is also beyond MaxWeight.
				if exact.CmpAbs(beyond) > 0 {
					exact = beyond
				}
				compareScale(t, b, shift, int(exact.Int64()))
			})
		}
	}
}

// P6.4.
func TestQuantizeCases(t *testing.T) {
	for _, c := range []struct {
		name  string
		l     []uint64
		shift int
		want  []int
	}{
		{"the chapter's thirds", list(1.0/3, 1.0/3, 1.0/3), 8, []int{86, 85, 85}},
		{"no correction", list(0.25, 0.5, 0.25), 8, []int{64, 128, 64}},
		{"one value", list(1), 8, []int{256}},
		{"one value, corrected up", list(0), 0, []int{1}},
		{"one value, corrected down", list(2), 0, []int{1}},
		{"negative values", list(-0.1, 1.2, -0.1), 4, []int{-2, 20, -2}},
		{"the greatest is first", list(0.6, 0.2, 0.2), 3, []int{4, 2, 2}},
		{"the greatest is in the middle", list(0.2, 0.6, 0.2), 3, []int{2, 4, 2}},
		{"the greatest is last", list(0.2, 0.2, 0.6), 3, []int{2, 2, 4}},
		{"greatest results by less than the greatest value", list(0.1, 0.26, 0.3, 0.26), 2, []int{0, 2, 1, 1}},
		{"two greatest results behind a lesser one", list(0.1, 0.4, 0.4), 3, []int{1, 4, 3}},
		{"two greatest results, apart", list(1.4, 0.3, 1.4), 0, []int{0, 0, 1}},
		{"halves to even results", list(0.5, 0.5), 0, []int{1, 0}},
		{"a correction beyond the greatest result", list(1, 1, 1, 1, 1, 1, 1, 1), 0, []int{-6, 1, 1, 1, 1, 1, 1, 1}},
		{"zeros and a correction of their number", make([]uint64, 8), 3, []int{8, 0, 0, 0, 0, 0, 0, 0}},
		{"zeros with and without the sign", []uint64{sign, 0, sign, 0}, 2, []int{4, 0, 0, 0}},
		{"subnormal values", []uint64{leastSubnormal, mostSubnormal, sign | 1}, 1, []int{2, 0, 0}},
		{"a greatest result of 0", list(-1, 0, -1), 0, []int{-1, 3, -1}},
		{"a corrected result of MaxWeight", list(32766, -32766), 0, []int{32767, -32766}},
		{"a result of MaxWeight without a correction", list(32767, -32766), 0, []int{32767, -32766}},
		{"a result of MaxWeight, corrected down", list(32767, -32765), 0, []int{32766, -32765}},
		{"MaxTaps values", repeated(0.125, 8), 3, []int{1, 1, 1, 1, 1, 1, 1, 1}},
		{"the greatest shift of a sum of MaxTaps results", repeated(0.125, 8), 17, slices.Repeat([]int{16384}, 8)},
	} {
		if got, code := Quantize(c.l, c.shift); !slices.Equal(got, c.want) || code != api.OK {
			t.Errorf("%s: Quantize(%#x, %d) = %v, %d, want %v, OK", c.name, c.l, c.shift, got, code, c.want)
		}
	}
}

// P6.4: the errors, and which of two comes first.
func TestQuantizeErrors(t *testing.T) {
	for _, c := range []struct {
		name  string
		l     []uint64
		shift int
		want  api.Code
	}{
		{"shift -1", list(1), -1, api.ErrRange},
		{"shift beyond MaxShift", list(1), api.MaxShift + 1, api.ErrRange},
		{"shift -1 and no values", nil, -1, api.ErrRange},
		{"shift beyond MaxShift and too many values", repeated(0, 9), api.MaxShift + 1, api.ErrRange},
		{"shift beyond MaxShift and no number", []uint64{quietNaN}, api.MaxShift + 1, api.ErrRange},
		{"shift -1 and a value beyond MaxWeight", list(1e9), -1, api.ErrRange},
		{"nil", nil, 8, api.ErrLimit},
		{"empty", []uint64{}, 8, api.ErrLimit},
		{"one beyond MaxTaps", repeated(0, 9), 8, api.ErrLimit},
		{"one beyond MaxTaps, with the sum 2^shift", append(list(1), repeated(0, 8)...), 8, api.ErrLimit},
		{"many values", repeated(0, 1000), 8, api.ErrLimit},
		{"too many values, none a number", repeated(math.NaN(), 9), 8, api.ErrLimit},
		{"too many values, beyond MaxWeight", repeated(1e9, 9), 8, api.ErrLimit},
		{"infinite", []uint64{infinity}, 8, api.ErrInvalid},
		{"infinite with the sign", []uint64{of(1), sign | infinity}, 8, api.ErrInvalid},
		{"infinite with both signs", []uint64{infinity, sign | infinity}, 8, api.ErrInvalid},
		{"no number in the middle", []uint64{of(0.5), lastNaN, of(0.5)}, 8, api.ErrInvalid},
		{"no number at the end", []uint64{of(0.5), of(0.5), sign | firstNaN}, 8, api.ErrInvalid},
		{"no number before a value beyond MaxWeight", []uint64{quietNaN, of(1e9)}, 8, api.ErrInvalid},
		{"a value beyond MaxWeight before one that is no number", []uint64{of(1e9), quietNaN}, 8, api.ErrOverflow},
		{"no number, and a sum that is too small", []uint64{0, quietNaN}, 8, api.ErrInvalid},
		{"a value beyond MaxWeight", list(1), 15, api.ErrOverflow},
		{"a value beyond -MaxWeight", list(-1, 2), 15, api.ErrOverflow},
		{"values beyond MaxWeight with the sum 2^shift", list(2, -1), 15, api.ErrOverflow},
		{"a value beyond MaxWeight, and a correction that is too great", list(0, 1e9), 0, api.ErrOverflow},
		{"a sum that is too small", list(0.25, 0.25), 8, api.ErrWeight},
		{"a sum that is too great", list(0.75, 0.75), 8, api.ErrWeight},
		{"one value, a correction of 2", list(-1), 0, api.ErrWeight},
		{"only negative results", list(-0.3, -0.3), 1, api.ErrWeight},
		{"zeros and a correction beyond their number", repeated(0, 8), 4, api.ErrWeight},
		{"one value, a correction of -2", list(3), 0, api.ErrWeight},
		{"the greatest shift", repeated(32767.0/(1<<24), 8), api.MaxShift, api.ErrWeight},
		{"a corrected result beyond MaxWeight", list(32767, -32767), 0, api.ErrOverflow},
		{"a corrected result beyond MaxWeight by 1, one value", list(32767.0 / 32768), 15, api.ErrOverflow},
		{"a corrected result beyond MaxWeight by MaxTaps", repeated(32767.0/(1<<18), 8), 18, api.ErrOverflow},
		{"a correction that is too great, for a result beyond MaxWeight", list(32767.0/16, -32767.0/16), 4, api.ErrWeight},
		{"a correction one too great, for a result beyond MaxWeight", list(32767, -32766, -4), 0, api.ErrWeight},
		{"a correction of the number of values, for a result beyond MaxWeight", list(32767, -32766, -3), 0, api.ErrOverflow},
	} {
		if got, code := Quantize(c.l, c.shift); len(got) > 0 || code != c.want {
			t.Errorf("%s: Quantize(%#x, %d) = %v, %d, want nothing, %d", c.name, c.l, c.shift, got, code, c.want)
		}
	}
	for _, shift := range notShifts {
		if got, code := Quantize(list(1), shift); len(got) > 0 || code != api.ErrRange {
			t.Errorf("Quantize of 1 with the shift %d = %v, %d, want nothing, ErrRange", shift, got, code)
		}
	}
}

// P6.4: corrections around the number of the values, with each sign and for every number of values.
func TestQuantizeCorrections(t *testing.T) {
	for count := 1; count <= api.MaxTaps; count++ {
		for correction := -count - 2; correction <= count+2; correction++ {
			for greatest := range count {
				results := make([]int, count)
				results[greatest] = 1<<14 - correction
				compareCorrected(t, results, greatest, correction)
			}
		}
	}
}

// P6.4: of two greatest results the first one is corrected.
func TestQuantizeFirstGreatest(t *testing.T) {
	for count := 3; count <= api.MaxTaps; count++ {
		for correction := -count - 2; correction <= count+2; correction++ {
			for first := range count {
				for second := first + 1; second < count; second++ {
					results := make([]int, count)
					results[first], results[second] = 1<<13, 1<<13
					results[slices.Index(results, 0)] = -correction
					compareCorrected(t, results, first, correction)
				}
			}
		}
	}
}

// compareCorrected quantizes values that have these results with the shift 14, of which the first greatest one has to be
// corrected.
func compareCorrected(t *testing.T, results []int, greatest, correction int) {
	t.Helper()
	l := make([]uint64, len(results))
	for i, result := range results {
		l[i] = of(float64(result) / (1 << 14))
	}
	want, wantCode := slices.Clone(results), api.OK
	want[greatest] += correction
	if correction < -len(l) || correction > len(l) {
		want, wantCode = nil, api.ErrWeight
	}
	if got, code := Quantize(l, 14); !slices.Equal(got, want) || code != wantCode {
		t.Errorf("Quantize of %v / 2^14 = %v, %d, want %v, %d", results, got, code, want, wantCode)
	}
}

// quantized is P6.4 step by step, with sums of results by Scale.
func quantized(l []uint64, shift int) ([]int, api.Code) {
	var results []int
	sum, greatest := 0, 0
	for i, b := range l {
		result, code := Scale(b, shift)
		if code != api.OK {
			return nil, code
		}
		results = append(results, result)
		sum += result
		if result > results[greatest] {
			greatest = i
		}
	}
	correction := int(math.Pow(2, float64(shift))) - sum
	if max(correction, -correction) > len(l) {
		return nil, api.ErrWeight
	}
	results[greatest] += correction
	if results[greatest] > api.MaxWeight {
		return nil, api.ErrOverflow
	}
	return results, api.OK
}

// P6.4 for all lists of up to three of some values, with every shift, and the chapter's consequences.
func TestQuantizeByDefinition(t *testing.T) {
	some := list(-1, -0.3, math.Copysign(0, -1), 0, 0x1p-20, 0.1, 0.3, 1.0/3, 0.5, 0.7, 1, 1.5, 2, math.Inf(1))
	var lists [][]uint64
	for _, a := range some {
		lists = append(lists, []uint64{a})
		for _, b := range some {
			lists = append(lists, []uint64{a, b})
			for _, c := range some {
				lists = append(lists, []uint64{a, b, c})
			}
		}
	}
	counts := map[api.Code]int{}
	for _, l := range lists {
		for shift := range api.MaxShift + 1 {
			want, wantCode := quantized(l, shift)
			got, code := Quantize(l, shift)
			if !slices.Equal(got, want) || code != wantCode {
				t.Fatalf("Quantize(%#x, %d) = %v, %d, want %v, %d", l, shift, got, code, want, wantCode)
			}
			counts[code]++
			if code == api.OK {
				if fault := consequences(l, shift, got); fault != "" {
					t.Fatalf("Quantize(%#x, %d) = %v: %s", l, shift, got, fault)
				}
			}
		}
	}
	for _, code := range []api.Code{api.OK, api.ErrInvalid, api.ErrOverflow, api.ErrWeight} {
		if counts[code] == 0 {
			t.Errorf("no list has the code %d", code)
		}
	}
}

// consequences says what is wrong with weights that were quantized without an error.
func consequences(l []uint64, shift int, weights []int) string {
	sum := 0
	for i, b := range l {
		result, _ := Scale(b, shift)
		if d := weights[i] - result; max(d, -d) > len(l) {
			return fmt.Sprintf("weight %d differs by %d", i, d)
		}
		sum += weights[i]
	}
	if sum != 1<<shift {
		return fmt.Sprintf("the sum is %d", sum)
	}
	return ""
}

// R2: the argument stays as it is, the space behind it too, and results share no memory.
func TestQuantizeIsNew(t *testing.T) {
	space := list(1.0/3, 1.0/3, 1.0/3, 0.25, 0.75)
	before := slices.Clone(space)
	first, _ := Quantize(space[:3], 8)
	second, _ := Quantize(space[:3], 8)
	for i := range first {
		first[i] = -1
	}
	if !slices.Equal(second, []int{86, 85, 85}) {
		t.Errorf("writing into one result changes another one to %v", second)
	}
	if third, code := Quantize(space[:3], 8); !slices.Equal(third, second) || code != api.OK {
		t.Errorf("Quantize after writing into its result = %v, %d", third, code)
	}
	if !slices.Equal(space, before) {
		t.Errorf("the argument is changed to %#x", space)
	}
}
