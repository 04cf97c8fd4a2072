package extent

import (
	"math"
	"math/big"
	"slices"
	"testing"
)

// root is the greatest integer whose square fits in an int.
const root = 3037000499

// edges are the numbers around which signs, squares and the range of an int change.
var edges = []int{
	math.MinInt, math.MinInt + 1, -(1 << 32), -17, -2, -1,
	0, 1, 2, 3, 5, 7, 16, 17, 31, 32, 33,
	1<<31 - 1, 1 << 31, root - 1, root, root + 1, 1 << 32, 1 << 40,
	math.MaxInt / 3, 1<<62 - 1, 1 << 62, 1<<62 + 1, math.MaxInt - 1, math.MaxInt,
}

// expected is the pair that is due for an exact value: the value and true, or 0 and false.
func expected(valid bool, exact *big.Int, limit int) (int, bool) {
	if !valid || exact.Cmp(big.NewInt(int64(limit))) > 0 {
		return 0, false
	}
	return int(exact.Int64()), true
}

// exactCeil is a / b rounded up, for a of at least 0 and b of at least 1.
func exactCeil(a, b int) *big.Int {
	n := new(big.Int).Add(big.NewInt(int64(a)), big.NewInt(int64(b)))
	n.Sub(n, big.NewInt(1))
	return n.Div(n, big.NewInt(int64(b)))
}

// P1.1, Mul.
func TestMulCases(t *testing.T) {
	for _, c := range []struct {
		name           string
		a, b, limit, n int
		ok             bool
	}{
		{"ordinary", 6, 7, 100, 42, true},
		{"exactly the limit", 6, 7, 42, 42, true},
		{"one beyond the limit", 6, 7, 41, 0, false},
		{"limit between two multiples", 4, 3, 13, 12, true},
		{"zero factors", 0, 0, 0, 0, true},
		{"zero first", 0, 9, 0, 0, true},
		{"zero second", 9, 0, 0, 0, true},
		{"zero limit", 1, 1, 0, 0, false},
		{"negative first", -1, 3, 10, 0, false},
		{"negative second", 3, -1, 10, 0, false},
		{"both negative", -2, -3, 10, 0, false},
		{"negative times zero", -1, 0, 10, 0, false},
		{"zero times negative", 0, -1, 10, 0, false},
		{"negative limit", 0, 0, -1, 0, false},
		{"negative limit and a negative factor", 2, -3, -6, 0, false},
		{"example 1", 1 << 40, 1 << 40, 1 << 62, 0, false},
		{"product wraps to zero", 1 << 32, 1 << 32, math.MaxInt, 0, false},
		{"product wraps to a small number", 1<<32 + 1, 1 << 32, math.MaxInt, 0, false},
		{"greatest square", root, root, math.MaxInt, root * root, true},
		{"first square that does not fit", root + 1, root + 1, math.MaxInt, 0, false},
		{"greatest int", math.MaxInt, 1, math.MaxInt, math.MaxInt, true},
		{"twice the greatest int", math.MaxInt, 2, math.MaxInt, 0, false},
		{"least int", math.MinInt, math.MinInt, math.MaxInt, 0, false},
		{"least int times -1", math.MinInt, -1, math.MaxInt, 0, false},
	} {
		if n, ok := Mul(c.a, c.b, c.limit); n != c.n || ok != c.ok {
			t.Errorf("%s: Mul(%d, %d, %d) = %d, %v", c.name, c.a, c.b, c.limit, n, ok)
		}
	}
}

// P1.1, Mul for all integers.
func TestMulIsExact(t *testing.T) {
	for _, a := range edges {
		for _, b := range edges {
			exact := new(big.Int).Mul(big.NewInt(int64(a)), big.NewInt(int64(b)))
			for _, limit := range edges {
				want, wantOK := expected(a >= 0 && b >= 0, exact, limit)
				if n, ok := Mul(a, b, limit); n != want || ok != wantOK {
					t.Errorf("Mul(%d, %d, %d) = %d, %v", a, b, limit, n, ok)
				}
			}
		}
	}
}

// The consequence of P1.1 that is named for greater limits, and commutativity.
func TestMulConsequences(t *testing.T) {
	for a := -3; a <= 12; a++ {
		for b := -3; b <= 12; b++ {
			accepted := false
			for limit := -3; limit <= 150; limit++ {
				n, ok := Mul(a, b, limit)
				if m, same := Mul(b, a, limit); m != n || same != ok {
					t.Errorf("Mul(%d, %d, %d) is not commutative", a, b, limit)
				}
				if accepted && !ok {
					t.Errorf("Mul(%d, %d, %d) is refused with a greater limit", a, b, limit)
				}
				accepted = ok
			}
			if accepted != (a >= 0 && b >= 0) {
				t.Errorf("Mul(%d, %d, 150) is %v", a, b, accepted)
			}
		}
	}
}

// P1.1, Sum.
func TestSumCases(t *testing.T) {
	for _, c := range []struct {
		name     string
		l        []int
		limit, n int
		ok       bool
	}{
		{"ordinary", []int{1, 2, 3, 4}, 100, 10, true},
		{"exactly the limit", []int{1, 2, 3, 4}, 10, 10, true},
		{"one beyond the limit", []int{1, 2, 3, 4}, 9, 0, false},
		{"one number", []int{7}, 7, 7, true},
		{"one number beyond the limit", []int{8}, 7, 0, false},
		{"nil", nil, 0, 0, true},
		{"empty", []int{}, 0, 0, true},
		{"empty with a negative limit", nil, -1, 0, false},
		{"zeros with a negative limit", []int{0, 0}, -1, 0, false},
		{"zeros", []int{0, 0, 0}, 0, 0, true},
		{"negative first", []int{-1, 5}, 10, 0, false},
		{"negative last", []int{5, -1}, 10, 0, false},
		{"negative behind numbers beyond the limit", []int{9, 9, -8}, 10, 0, false},
		{"negative and a negative limit", []int{-5}, -5, 0, false},
		{"least int", []int{9, math.MinInt}, 10, 0, false},
		{"greatest int", []int{0, math.MaxInt, 0}, math.MaxInt, math.MaxInt, true},
		{"parts of the greatest int", []int{1 << 62, 1<<62 - 1}, math.MaxInt, math.MaxInt, true},
		{"one beyond the greatest int", []int{math.MaxInt, 1}, math.MaxInt, 0, false},
		{"sum wraps to zero", []int{math.MaxInt, math.MaxInt, 2}, math.MaxInt, 0, false},
		{"sum wraps to a small number", []int{1 << 62, 1 << 62, 1 << 62, 1 << 62, 5}, math.MaxInt, 0, false},
	} {
		if n, ok := Sum(c.l, c.limit); n != c.n || ok != c.ok {
			t.Errorf("%s: Sum(%v, %d) = %d, %v", c.name, c.l, c.limit, n, ok)
		}
	}
}

// P1.1, Sum for all integers.
func TestSumIsExact(t *testing.T) {
	for _, a := range edges {
		for _, b := range edges {
			for _, c := range []int{math.MinInt, -1, 0, 1, 2, 1 << 62, math.MaxInt} {
				exact := new(big.Int).Add(big.NewInt(int64(a)), big.NewInt(int64(b)))
				exact.Add(exact, big.NewInt(int64(c)))
				for _, limit := range edges {
					want, wantOK := expected(a >= 0 && b >= 0 && c >= 0, exact, limit)
					if n, ok := Sum([]int{a, b, c}, limit); n != want || ok != wantOK {
						t.Errorf("Sum(%d %d %d, %d) = %d, %v", a, b, c, limit, n, ok)
					}
				}
			}
		}
	}
}

// R2: the numbers of the argument stay as they are.
func TestSumLeavesItsArgument(t *testing.T) {
	l := []int{3, 1, 2}
	if n, ok := Sum(l, 6); n != 6 || !ok {
		t.Error(n, ok)
	}
	if !slices.Equal(l, []int{3, 1, 2}) {
		t.Error(l)
	}
}

// P1.2, Ceil.
func TestCeilCases(t *testing.T) {
	for _, c := range []struct {
		name    string
		a, b, n int
	}{
		{"example 2", 7, 3, 3},
		{"no remainder", 6, 3, 2},
		{"remainder of one", 10, 3, 4},
		{"less than the divisor", 2, 3, 1},
		{"zero", 0, 3, 0},
		{"divisor of one", 9, 1, 9},
		{"negative", -1, 3, 0},
		{"negative with a rounded quotient below zero", -7, 3, 0},
		{"zero divisor", 7, 0, 0},
		{"negative divisor", 7, -3, 0},
		{"both negative", -7, -3, 0},
		{"zero by zero", 0, 0, 0},
		{"greatest int by one", math.MaxInt, 1, math.MaxInt},
		{"greatest int by two", math.MaxInt, 2, 1 << 62},
		{"greatest int by itself", math.MaxInt, math.MaxInt, 1},
		{"greatest int by one less", math.MaxInt, math.MaxInt - 1, 2},
		{"one by the greatest int", 1, math.MaxInt, 1},
		{"least int by -1", math.MinInt, -1, 0},
		{"least int by one", math.MinInt, 1, 0},
		{"greatest int by the least", math.MaxInt, math.MinInt, 0},
	} {
		if n := Ceil(c.a, c.b); n != c.n {
			t.Errorf("%s: Ceil(%d, %d) = %d", c.name, c.a, c.b, n)
		}
	}
}

// P1.2, Ceil for all integers.
func TestCeilIsExact(t *testing.T) {
	for _, a := range edges {
		for _, b := range edges {
			want := 0
			if a >= 0 && b >= 1 {
				want = int(exactCeil(a, b).Int64())
			}
			if n := Ceil(a, b); n != want {
				t.Errorf("Ceil(%d, %d) = %d, not %d", a, b, n, want)
			}
		}
	}
}

// P1.2, Align.
func TestAlignCases(t *testing.T) {
	for _, c := range []struct {
		name           string
		n, k, limit, m int
		ok             bool
	}{
		{"example 3", 17, 16, 32, 32, true},
		{"example 3 with the lesser limit", 17, 16, 31, 0, false},
		{"limit between two multiples", 17, 16, 47, 32, true},
		{"a multiple already", 32, 16, 32, 32, true},
		{"a multiple beyond the limit", 32, 16, 31, 0, false},
		{"one below a multiple", 31, 16, 40, 32, true},
		{"no power of two", 7, 6, 12, 12, true},
		{"zero", 0, 16, 0, 0, true},
		{"zero with a negative limit", 0, 16, -1, 0, false},
		{"alignment of one", 13, 1, 13, 13, true},
		{"negative", -1, 16, 32, 0, false},
		{"negative multiple", -16, 16, 32, 0, false},
		{"zero alignment", 5, 0, 32, 0, false},
		{"zero and zero alignment", 0, 0, 32, 0, false},
		{"negative alignment", 5, -5, 32, 0, false},
		{"least int alignment", 5, math.MinInt, math.MaxInt, 0, false},
		{"least int", math.MinInt, 1, math.MaxInt, 0, false},
		{"greatest int", math.MaxInt, 1, math.MaxInt, math.MaxInt, true},
		{"multiple of the greatest int", 1, math.MaxInt, math.MaxInt, math.MaxInt, true},
		{"multiple does not fit by one", math.MaxInt, 2, math.MaxInt, 0, false},
		{"multiple does not fit", math.MaxInt, math.MaxInt - 1, math.MaxInt, 0, false},
		{"multiple wraps to zero", 1<<62 + 1, 1 << 62, math.MaxInt, 0, false},
	} {
		if m, ok := Align(c.n, c.k, c.limit); m != c.m || ok != c.ok {
			t.Errorf("%s: Align(%d, %d, %d) = %d, %v", c.name, c.n, c.k, c.limit, m, ok)
		}
	}
}

// P1.2, Align for all integers.
func TestAlignIsExact(t *testing.T) {
	for _, n := range edges {
		for _, k := range edges {
			valid := n >= 0 && k >= 1
			exact := new(big.Int)
			if valid {
				exact.Mul(exactCeil(n, k), big.NewInt(int64(k)))
			}
			for _, limit := range edges {
				want, wantOK := expected(valid, exact, limit)
				if m, ok := Align(n, k, limit); m != want || ok != wantOK {
					t.Errorf("Align(%d, %d, %d) = %d, %v", n, k, limit, m, ok)
				}
			}
		}
	}
}
