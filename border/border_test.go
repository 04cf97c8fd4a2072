package border

import (
	"math"
	"math/big"
	"slices"
	"testing"

	"tilefarm/api"
)

const (
	m = api.MaxCoord

	clamp    = api.BorderClamp
	mirror   = api.BorderMirror
	wrap     = api.BorderWrap
	constant = api.BorderConstant
)

// policies lists the four policies.
var policies = []int{clamp, mirror, wrap, constant}

// noPolicies lists numbers that are none of the four policies.
var noPolicies = []int{-1, 4, 5, 1 << 32, math.MinInt, math.MaxInt}

// noLengths lists lengths that a plane cannot have.
var noLengths = []int{0, -1, -api.MaxSide, api.MaxSide + 1, 2 * api.MaxSide, m, math.MinInt, math.MinInt / 2, math.MaxInt/2 + 1, math.MaxInt}

// ends lists coordinates around 0, around MaxCoord and at the ends of int.
var ends = []int{
	math.MinInt, math.MinInt + 1, math.MinInt + 127, -m - 1, -m, -m + 1, -257, -256, -129, -128, -127, -2, -1,
	0, 1, 2, 126, 127, 128, 129, 255, 256, 257, m - 1, m, m + 1, math.MaxInt - 128, math.MaxInt - 1, math.MaxInt,
}

// P3.1, Valid.
func TestValidCases(t *testing.T) {
	for _, c := range []struct {
		name string
		e    api.Edge
		max  int
		want bool
	}{
		{"zero edge", api.Edge{}, 255, true},
		{"clamp", api.Edge{Policy: clamp}, 255, true},
		{"mirror", api.Edge{Policy: mirror}, 255, true},
		{"wrap", api.Edge{Policy: wrap}, 255, true},
		{"constant 0", api.Edge{Policy: constant}, 255, true},
		{"constant between", api.Edge{Policy: constant, Fill: 100}, 255, true},
		{"constant max", api.Edge{Policy: constant, Fill: 255}, 255, true},
		{"constant beyond max", api.Edge{Policy: constant, Fill: 256}, 255, false},
		{"constant below 0", api.Edge{Policy: constant, Fill: -1}, 255, false},
		{"constant 0 with max 0", api.Edge{Policy: constant}, 0, true},
		{"constant 1 with max 0", api.Edge{Policy: constant, Fill: 1}, 0, false},
		{"constant 0 with max -1", api.Edge{Policy: constant}, -1, false},
		{"constant -1 with max -1", api.Edge{Policy: constant, Fill: -1}, -1, false},
		{"constant -2 with max -1", api.Edge{Policy: constant, Fill: -2}, -1, false},
		{"constant MaxValue", api.Edge{Policy: constant, Fill: api.MaxValue}, api.MaxValue, true},
		{"constant beyond MaxValue", api.Edge{Policy: constant, Fill: api.MaxValue + 1}, api.MaxValue, false},
		{"constant greatest int", api.Edge{Policy: constant, Fill: math.MaxInt}, math.MaxInt, true},
		{"constant least int", api.Edge{Policy: constant, Fill: math.MinInt}, math.MaxInt, false},
		{"constant least ints", api.Edge{Policy: constant, Fill: math.MinInt}, math.MinInt, false},
		{"constant 0 with the least int", api.Edge{Policy: constant}, math.MinInt, false},
	} {
		if got := Valid(c.e, c.max); got != c.want {
			t.Errorf("%s: Valid(%v, %d) = %v", c.name, c.e, c.max, got)
		}
	}
}

// P3.1, Valid: a Fill that is not used is 0, whatever max is.
func TestValidUnusedFill(t *testing.T) {
	for _, policy := range []int{clamp, mirror, wrap} {
		for _, max := range []int{math.MinInt, -1, 0, 1, 255, api.MaxValue, math.MaxInt} {
			if !Valid(api.Edge{Policy: policy}, max) {
				t.Errorf("Valid refuses policy %d without Fill, with max %d", policy, max)
			}
			for _, fill := range []int{math.MinInt, -1, 1, 255, math.MaxInt} {
				if Valid(api.Edge{Policy: policy, Fill: fill}, max) {
					t.Errorf("Valid accepts policy %d with Fill %d, with max %d", policy, fill, max)
				}
			}
		}
	}
}

// P3.1, Valid: numbers that are no policy.
func TestValidNoPolicy(t *testing.T) {
	for _, policy := range noPolicies {
		for _, fill := range []int{-1, 0, 1, 255} {
			if Valid(api.Edge{Policy: policy, Fill: fill}, 255) {
				t.Errorf("Valid accepts policy %d with Fill %d", policy, fill)
			}
		}
	}
}

// P3.1, Index.
func TestIndexCases(t *testing.T) {
	for _, c := range []struct {
		name         string
		i, n, policy int
		want         int
		ok           bool
	}{
		{"clamp: just before", -1, 3, clamp, 0, true},
		{"clamp: far before", -100, 3, clamp, 0, true},
		{"clamp: inside", 1, 3, clamp, 1, true},
		{"clamp: the last", 2, 3, clamp, 2, true},
		{"clamp: just after", 3, 3, clamp, 2, true},
		{"clamp: far after", 100, 3, clamp, 2, true},
		{"clamp: least int", math.MinInt, 3, clamp, 0, true},
		{"clamp: greatest int", math.MaxInt, 3, clamp, 2, true},
		{"clamp: length 1 before", -5, 1, clamp, 0, true},
		{"clamp: length 1 after", 5, 1, clamp, 0, true},
		{"clamp: longest", 500, api.MaxSide, clamp, 127, true},

		{"mirror: just before", -1, 3, mirror, 0, true},
		{"mirror: two before", -2, 3, mirror, 1, true},
		{"mirror: the last before", -3, 3, mirror, 2, true},
		{"mirror: turned before", -4, 3, mirror, 2, true},
		{"mirror: a period before", -6, 3, mirror, 0, true},
		{"mirror: a period and one before", -7, 3, mirror, 0, true},
		{"mirror: inside", 1, 3, mirror, 1, true},
		{"mirror: the last", 2, 3, mirror, 2, true},
		{"mirror: just after", 3, 3, mirror, 2, true},
		{"mirror: the last of a period", 5, 3, mirror, 0, true},
		{"mirror: the next period", 6, 3, mirror, 0, true},
		{"mirror: inside of the next period", 7, 3, mirror, 1, true},
		{"mirror: length 1 before", -8, 1, mirror, 0, true},
		{"mirror: length 1 after", 7, 1, mirror, 0, true},
		{"mirror: longest", 128, api.MaxSide, mirror, 127, true},
		{"mirror: longest, end of the period", 255, api.MaxSide, mirror, 0, true},
		{"mirror: least int", math.MinInt, api.MaxSide, mirror, 0, true},
		{"mirror: greatest int", math.MaxInt, api.MaxSide, mirror, 0, true},
		{"mirror: least int, length 3", math.MinInt, 3, mirror, 1, true},          // -2^63 modulo 6 is 4.
		{"mirror: greatest int, length 3", math.MaxInt, 3, mirror, 1, true},       // 2^63 - 1 modulo 6 is 1.
		{"mirror: greatest int, length 5", math.MaxInt, 5, mirror, 2, true},       // 2^63 - 1 modulo 10 is 7.
		{"mirror: least int, length 5", math.MinInt, 5, mirror, 2, true},          // -2^63 modulo 10 is 2.
		{"mirror: greatest int, length 127", math.MaxInt, 127, mirror, 126, true}, // 2^63 - 1 modulo 254 is 127.

		{"wrap: just before", -1, 3, wrap, 2, true},
		{"wrap: a period before", -3, 3, wrap, 0, true},
		{"wrap: a period and one before", -4, 3, wrap, 2, true},
		{"wrap: inside", 1, 3, wrap, 1, true},
		{"wrap: the last", 2, 3, wrap, 2, true},
		{"wrap: just after", 3, 3, wrap, 0, true},
		{"wrap: a period and one after", 4, 3, wrap, 1, true},
		{"wrap: length 1 before", -8, 1, wrap, 0, true},
		{"wrap: length 1 after", 7, 1, wrap, 0, true},
		{"wrap: longest", 128, api.MaxSide, wrap, 0, true},
		{"wrap: least int", math.MinInt, api.MaxSide, wrap, 0, true},
		{"wrap: greatest int", math.MaxInt, api.MaxSide, wrap, 127, true},
		{"wrap: least int, length 3", math.MinInt, 3, wrap, 1, true},
		{"wrap: greatest int, length 3", math.MaxInt, 3, wrap, 1, true},

		{"constant: just before", -1, 3, constant, 0, false},
		{"constant: the first", 0, 3, constant, 0, true},
		{"constant: inside", 1, 3, constant, 1, true},
		{"constant: the last", 2, 3, constant, 2, true},
		{"constant: just after", 3, 3, constant, 0, false},
		{"constant: length 1", 0, 1, constant, 0, true},
		{"constant: length 1 after", 1, 1, constant, 0, false},
		{"constant: longest, the last", 127, api.MaxSide, constant, 127, true},
		{"constant: longest, just after", 128, api.MaxSide, constant, 0, false},
		{"constant: least int", math.MinInt, 3, constant, 0, false},
		{"constant: greatest int", math.MaxInt, 3, constant, 0, false},
	} {
		if got, ok := Index(c.i, c.n, c.policy); got != c.want || ok != c.ok {
			t.Errorf("%s: Index(%d, %d, %d) = %d, %v", c.name, c.i, c.n, c.policy, got, ok)
		}
	}
}

// mapped is the definition of the chapter, with integers of any size.
func mapped(i, n, policy int) (int, bool) {
	modulo := func(k int) int {
		return int(new(big.Int).Mod(big.NewInt(int64(i)), big.NewInt(int64(k))).Int64())
	}
	switch {
	case 0 <= i && i < n:
		return i, true
	case policy == constant:
		return 0, false
	case policy == wrap:
		return modulo(n), true
	case policy == mirror && modulo(2*n) < n:
		return modulo(2 * n), true
	case policy == mirror:
		return 2*n - 1 - modulo(2*n), true
	case i < 0:
		return 0, true
	}
	return n - 1, true
}

// P3.1, Index: every length and policy, with coordinates of several periods and at the ends of int.
func TestIndexReference(t *testing.T) {
	for n := 1; n <= api.MaxSide; n++ {
		coordinates := slices.Clone(ends)
		for i := -5*n - 2; i <= 5*n+2; i++ {
			coordinates = append(coordinates, i)
		}
		for _, policy := range policies {
			for _, i := range coordinates {
				want, mappable := mapped(i, n, policy)
				if got, ok := Index(i, n, policy); got != want || ok != mappable {
					t.Fatalf("Index(%d, %d, %d) = %d, %v, want %d, %v", i, n, policy, got, ok, want, mappable)
				}
			}
		}
	}
}

// P3.1, Index: lengths that no plane has, and numbers that are no policy.
func TestIndexInvalid(t *testing.T) {
	for _, i := range ends {
		for _, n := range noLengths {
			for _, policy := range slices.Concat(noPolicies, policies) {
				if got, ok := Index(i, n, policy); got != 0 || ok {
					t.Errorf("Index(%d, %d, %d) = %d, %v", i, n, policy, got, ok)
				}
			}
		}
		for _, n := range []int{1, 2, 3, api.MaxSide} {
			for _, policy := range noPolicies {
				if got, ok := Index(i, n, policy); got != 0 || ok {
					t.Errorf("Index(%d, %d, %d) = %d, %v", i, n, policy, got, ok)
				}
			}
		}
	}
}

// P3.2, Range.
func TestRangeCases(t *testing.T) {
	for _, c := range []struct {
		name                string
		from, to, n, policy int
		least, greatest     int
		ok                  bool
	}{
		{"clamp: inside", 1, 3, 4, clamp, 1, 2, true},
		{"clamp: over the start", -7, 3, 4, clamp, 0, 2, true},
		{"clamp: over the end", 2, 9, 4, clamp, 2, 3, true},
		{"clamp: over both", -7, 9, 4, clamp, 0, 3, true},
		{"clamp: wholly before", -7, -5, 4, clamp, 0, 0, true},
		{"clamp: up to the start", -7, 0, 4, clamp, 0, 0, true},
		{"clamp: from the end", 4, 9, 4, clamp, 3, 3, true},
		{"clamp: wholly after", 9, 12, 4, clamp, 3, 3, true},
		{"clamp: all coordinates", -m, m, 4, clamp, 0, 3, true},
		{"clamp: the first coordinate", -m, 1 - m, 4, clamp, 0, 0, true},
		{"clamp: the last coordinate", m - 1, m, 4, clamp, 3, 3, true},
		{"clamp: length 1", -3, 5, 1, clamp, 0, 0, true},
		{"clamp: longest", -3, 500, api.MaxSide, clamp, 0, 127, true},

		{"mirror: inside", 1, 3, 4, mirror, 1, 2, true},
		{"mirror: over the start, to the left", -3, 1, 4, mirror, 0, 2, true},
		{"mirror: over the start, to the right", -1, 3, 4, mirror, 0, 2, true},
		{"mirror: over the end, to the left", 1, 5, 4, mirror, 1, 3, true},
		{"mirror: over the end, to the right", 3, 7, 4, mirror, 1, 3, true},
		{"mirror: wholly before", -3, -1, 4, mirror, 1, 2, true},
		{"mirror: wholly after", 5, 7, 4, mirror, 1, 2, true},
		{"mirror: over the end of a period", 7, 10, 4, mirror, 0, 1, true},
		{"mirror: several periods", -30, 30, 4, mirror, 0, 3, true},
		{"mirror: all coordinates", -m, m, 128, mirror, 0, 127, true},
		{"mirror: the first coordinate", -m, 1 - m, 128, mirror, 0, 0, true},
		{"mirror: the last coordinate", m - 1, m, 128, mirror, 0, 0, true},
		{"mirror: the last two", m - 2, m, 128, mirror, 0, 1, true},
		{"mirror: length 1", -3, 5, 1, mirror, 0, 0, true},

		{"wrap: inside", 1, 3, 4, wrap, 1, 2, true},
		{"wrap: over the start", -2, 1, 4, wrap, 0, 3, true},
		{"wrap: over the end", 3, 5, 4, wrap, 0, 3, true},
		{"wrap: wholly before", -3, -1, 4, wrap, 1, 2, true},
		{"wrap: wholly after", 5, 7, 4, wrap, 1, 2, true},
		{"wrap: one coordinate", 7, 8, 4, wrap, 3, 3, true},
		{"wrap: several periods", -30, 30, 4, wrap, 0, 3, true},
		{"wrap: all coordinates", -m, m, 128, wrap, 0, 127, true},
		{"wrap: the first coordinate", -m, 1 - m, 128, wrap, 0, 0, true},
		{"wrap: the last coordinate", m - 1, m, 128, wrap, 127, 127, true},
		{"wrap: length 1", -3, 5, 1, wrap, 0, 0, true},

		{"constant: inside", 1, 3, 4, constant, 1, 2, true},
		{"constant: over the start", -1, 2, 4, constant, 0, 1, true},
		{"constant: over the end", 3, 9, 4, constant, 3, 3, true},
		{"constant: over both", -9, 9, 4, constant, 0, 3, true},
		{"constant: wholly before", -9, -1, 4, constant, 0, 0, false},
		{"constant: up to the start", -9, 0, 4, constant, 0, 0, false},
		{"constant: over the start by one", -9, 1, 4, constant, 0, 0, true},
		{"constant: from the end", 4, 9, 4, constant, 0, 0, false},
		{"constant: wholly after", 5, 9, 4, constant, 0, 0, false},
		{"constant: all coordinates", -m, m, 4, constant, 0, 3, true},
		{"constant: the first coordinate", -m, 1 - m, 4, constant, 0, 0, false},
		{"constant: the last coordinate", m - 1, m, 4, constant, 0, 0, false},
		{"constant: length 1", -3, 5, 1, constant, 0, 0, true},
		{"constant: longest", 5, 500, api.MaxSide, constant, 5, 127, true},
	} {
		if a, b, ok := Range(c.from, c.to, c.n, c.policy); a != c.least || b != c.greatest || ok != c.ok {
			t.Errorf("%s: Range(%d, %d, %d, %d) = %d, %d, %v", c.name, c.from, c.to, c.n, c.policy, a, b, ok)
		}
	}
}

// tried maps every coordinate from from to to - 1 with mapped, and returns the extremes.
func tried(from, to, n, policy int) (least, greatest int, found bool) {
	for i := from; i < to; i++ {
		k, ok := mapped(i, n, policy)
		if ok && !found {
			least, greatest, found = k, k, true
		}
		if ok {
			least, greatest = min(least, k), max(greatest, k)
		}
	}
	return least, greatest, found
}

// P3.2, Range: all short ranges around small planes, the empty ones among them.
func TestRangeReference(t *testing.T) {
	for n := 1; n <= 6; n++ {
		for _, policy := range policies {
			for from := -3*n - 1; from <= 4*n+1; from++ {
				for to := -3*n - 1; to <= 4*n+1; to++ {
					least, greatest, found := tried(from, to, n, policy)
					if a, b, ok := Range(from, to, n, policy); a != least || b != greatest || ok != found {
						t.Fatalf("Range(%d, %d, %d, %d) = %d, %d, %v, want %d, %d, %v",
							from, to, n, policy, a, b, ok, least, greatest, found)
					}
				}
			}
		}
	}
}

// P3.2, Range: the longer planes, with ranges of up to three periods.
func TestRangeReferenceLong(t *testing.T) {
	for _, n := range []int{7, 31, 64, 127, api.MaxSide} {
		starts := []int{-m, -m + 1, m - 6*n - 1, -3 * n, -2*n - 1, -2 * n, -n - 1, -n, -n / 2, -1, 0, 1, n / 2, n - 1, n, n + 1, 2*n - 1, 2 * n}
		lengths := []int{0, 1, 2, n/2 + 1, n - 1, n, n + 1, 2*n - 1, 2 * n, 2*n + 1, 3 * n, 6*n + 1}
		for _, policy := range policies {
			for _, from := range starts {
				for _, length := range lengths {
					least, greatest, found := tried(from, from+length, n, policy)
					if a, b, ok := Range(from, from+length, n, policy); a != least || b != greatest || ok != found {
						t.Fatalf("Range(%d, %d, %d, %d) = %d, %d, %v, want %d, %d, %v",
							from, from+length, n, policy, a, b, ok, least, greatest, found)
					}
				}
			}
		}
	}
}

// P3.2, Range: ranges without coordinates, or with an end beyond MaxCoord, for every policy.
func TestRangeRefused(t *testing.T) {
	for _, c := range []struct {
		name     string
		from, to int
	}{
		{"empty at 0", 0, 0},
		{"empty inside", 2, 2},
		{"empty after", 5, 5},
		{"empty before", -5, -5},
		{"empty at the first coordinate", -m, -m},
		{"empty at the last coordinate", m, m},
		{"reversed by one", 3, 2},
		{"reversed before", -5, -7},
		{"reversed over all", m, -m},
		{"from beyond", -m - 1, 5},
		{"to beyond", 0, m + 1},
		{"both beyond", -m - 1, m + 1},
		{"wholly beyond", m + 1, m + 5},
		{"wholly below", -m - 5, -m - 1},
		{"below up to the bound", -m - 1, -m},
		{"beyond from the bound", m, m + 1},
		{"reversed and beyond", m + 1, 0},
		{"reversed and below", 0, -m - 1},
		{"least int", math.MinInt, 3},
		{"greatest int", 0, math.MaxInt},
		{"all ints", math.MinInt, math.MaxInt},
		{"all ints reversed", math.MaxInt, math.MinInt},
		{"least ints", math.MinInt, math.MinInt + 1},
		{"greatest ints", math.MaxInt - 1, math.MaxInt},
		{"empty at the least int", math.MinInt, math.MinInt},
	} {
		for _, n := range []int{1, 4, api.MaxSide} {
			for _, policy := range policies {
				if a, b, ok := Range(c.from, c.to, n, policy); a != 0 || b != 0 || ok {
					t.Errorf("%s: Range(%d, %d, %d, %d) = %d, %d, %v", c.name, c.from, c.to, n, policy, a, b, ok)
				}
			}
		}
	}
}

// P3.2, Range: lengths that no plane has, and numbers that are no policy.
func TestRangeInvalid(t *testing.T) {
	for _, c := range [][2]int{{0, 1}, {0, 4}, {-3, 3}, {1, 3}, {-m, m}, {m, -m}, {math.MinInt, math.MaxInt}} {
		for _, n := range noLengths {
			for _, policy := range slices.Concat(noPolicies, policies) {
				if a, b, ok := Range(c[0], c[1], n, policy); a != 0 || b != 0 || ok {
					t.Errorf("Range(%d, %d, %d, %d) = %d, %d, %v", c[0], c[1], n, policy, a, b, ok)
				}
			}
		}
		for _, n := range []int{1, 4, api.MaxSide} {
			for _, policy := range noPolicies {
				if a, b, ok := Range(c[0], c[1], n, policy); a != 0 || b != 0 || ok {
					t.Errorf("Range(%d, %d, %d, %d) = %d, %d, %v", c[0], c[1], n, policy, a, b, ok)
				}
			}
		}
	}
}
