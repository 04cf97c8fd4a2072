package rect

import (
	"math"
	"slices"
	"testing"

	"tilefarm/api"
)

const m = api.MaxCoord

func of(x0, y0, x1, y1 int) api.Rect { return api.Rect{X0: x0, Y0: y0, X1: x1, Y1: y1} }

// none is the zero rectangle.
var none = api.Rect{}

// whole has all points that a valid rectangle can have.
var whole = of(-m, -m, m, m)

// invalid lists rectangles that are not valid.
var invalid = []struct {
	name string
	r    api.Rect
}{
	{"no columns", of(3, 0, 3, 5)},
	{"no rows", of(0, 3, 5, 3)},
	{"no columns at 0", of(0, 0, 0, 5)},
	{"no rows at 0", of(0, 0, 5, 0)},
	{"no points, but not zero", of(1, 1, 1, 1)},
	{"X0 beyond X1", of(2, 0, 1, 5)},
	{"Y0 beyond Y1", of(0, 2, 5, 1)},
	{"both reversed", of(4, 4, 0, 0)},
	{"X0 beyond the bound", of(-m-1, 0, 5, 5)},
	{"Y0 beyond the bound", of(0, -m-1, 5, 5)},
	{"X1 beyond the bound", of(0, 0, m+1, 5)},
	{"Y1 beyond the bound", of(0, 0, 5, m+1)},
	{"X0 and X1 beyond the bound", of(m+1, 0, m+5, 5)},
	{"Y0 and Y1 below the bound", of(0, -m-5, 5, -m-1)},
	{"X0 reversed and beyond the bound", of(m+1, 0, 5, 5)},
	{"X1 reversed and below the bound", of(0, 0, -m-1, 5)},
	{"Y1 reversed and below the bound", of(0, 0, 5, -m-1)},
	{"all ints", of(math.MinInt, math.MinInt, math.MaxInt, math.MaxInt)},
	{"all ints reversed", of(math.MaxInt, math.MaxInt, math.MinInt, math.MinInt)},
	{"least ints", of(math.MinInt, math.MinInt, math.MinInt, math.MinInt)},
	{"width that does not fit in an int", of(math.MinInt, 0, math.MaxInt, 1)},
	{"height that does not fit in an int", of(0, math.MinInt, 1, math.MaxInt)},
}

// P2.1, Valid, Empty and Area.
func TestValidEmptyAreaCases(t *testing.T) {
	for _, c := range []struct {
		name  string
		r     api.Rect
		empty bool
		area  int
	}{
		{"zero rectangle", none, true, 0},
		{"one point", of(0, 0, 1, 1), false, 1},
		{"one point before 0", of(-1, -1, 0, 0), false, 1},
		{"ordinary", of(2, 1, 9, 3), false, 14},
		{"negative coordinates", of(-9, -8, -5, -2), false, 24},
		{"one row", of(-3, 7, 4, 8), false, 7},
		{"one column", of(7, -3, 8, 4), false, 7},
		{"all points", whole, false, 1 << 42},
		{"first corner", of(-m, -m, 1-m, 1-m), false, 1},
		{"last corner", of(m-1, m-1, m, m), false, 1},
		{"full width", of(-m, 0, m, 1), false, 1 << 21},
		{"full height", of(0, -m, 1, m), false, 1 << 21},
	} {
		if !Valid(c.r) || Empty(c.r) != c.empty || Area(c.r) != c.area {
			t.Errorf("%s: Valid, Empty, Area of %v = %v, %v, %d", c.name, c.r, Valid(c.r), Empty(c.r), Area(c.r))
		}
	}
	for _, c := range invalid {
		if Valid(c.r) || Empty(c.r) || Area(c.r) != 0 {
			t.Errorf("%s: Valid, Empty, Area of %v = %v, %v, %d", c.name, c.r, Valid(c.r), Empty(c.r), Area(c.r))
		}
	}
}

// P2.1, Contains.
func TestContainsCases(t *testing.T) {
	r := of(-2, 1, 3, 4)
	for _, c := range []struct {
		name string
		r    api.Rect
		x, y int
		want bool
	}{
		{"first point", r, -2, 1, true},
		{"last point", r, 2, 3, true},
		{"inner point", r, 0, 2, true},
		{"left of it", r, -3, 2, false},
		{"X1 is excluded", r, 3, 2, false},
		{"above it", r, 0, 0, false},
		{"Y1 is excluded", r, 0, 4, false},
		{"least ints", r, math.MinInt, math.MinInt, false},
		{"greatest ints", r, math.MaxInt, math.MaxInt, false},
		{"zero rectangle", none, 0, 0, false},
		{"first point of all", whole, -m, -m, true},
		{"last point of all", whole, m - 1, m - 1, true},
		{"X beyond all", whole, m, 0, false},
		{"Y beyond all", whole, 0, m, false},
		{"X below all", whole, -m - 1, 0, false},
		{"Y below all", whole, 0, -m - 1, false},
		{"not valid at the left", of(-m-1, 0, 5, 5), 2, 2, false},
		{"not valid at the bottom", of(0, 0, 5, m+1), 2, 2, false},
		{"all ints", of(math.MinInt, math.MinInt, math.MaxInt, math.MaxInt), 0, 0, false},
	} {
		if got := Contains(c.r, c.x, c.y); got != c.want {
			t.Errorf("%s: Contains(%v, %d, %d) = %v", c.name, c.r, c.x, c.y, got)
		}
	}
}

// P2.1, Inside.
func TestInsideCases(t *testing.T) {
	r := of(0, 0, 4, 4)
	for _, c := range []struct {
		name string
		a, b api.Rect
		want bool
	}{
		{"within", of(1, 1, 3, 3), r, true},
		{"itself", r, r, true},
		{"around", r, of(1, 1, 3, 3), false},
		{"one column too far left", of(-1, 1, 3, 3), r, false},
		{"one column too far right", of(1, 1, 5, 3), r, false},
		{"one row too far up", of(1, -1, 3, 3), r, false},
		{"one row too far down", of(1, 1, 3, 5), r, false},
		{"no common point", of(4, 0, 8, 4), r, false},
		{"zero rectangle in one around 0", none, of(-1, -1, 1, 1), true},
		{"zero rectangle in one elsewhere", none, of(3, 3, 4, 4), true},
		{"zero rectangle in itself", none, none, true},
		{"in the zero rectangle", of(3, 3, 4, 4), none, false},
		{"all points", whole, whole, true},
		{"in all points", of(m-1, -m, m, m), whole, true},
	} {
		if got := Inside(c.a, c.b); got != c.want {
			t.Errorf("%s: Inside(%v, %v) = %v", c.name, c.a, c.b, got)
		}
	}
	for _, c := range invalid {
		for _, r := range []api.Rect{none, of(0, 0, 1, 1), r, whole, c.r} {
			if Inside(c.r, r) || Inside(r, c.r) {
				t.Errorf("%s: Inside of %v and %v = %v, %v", c.name, c.r, r, Inside(c.r, r), Inside(r, c.r))
			}
		}
	}
}

// P2.2, both functions; each case is tested in both orders.
func TestIntersectHullCases(t *testing.T) {
	r := of(0, 0, 4, 4)
	for _, c := range []struct {
		name       string
		a, b       api.Rect
		both, hull api.Rect
	}{
		{"example 1", r, of(2, 1, 9, 3), of(2, 1, 4, 3), of(0, 0, 9, 4)},
		{"itself", r, r, r, r},
		{"within", r, of(1, 2, 2, 3), of(1, 2, 2, 3), r},
		{"at a corner", r, of(3, 3, 6, 6), of(3, 3, 4, 4), of(0, 0, 6, 6)},
		{"negative coordinates", of(-9, -9, -5, -5), of(-6, -7, 2, 2), of(-6, -7, -5, -5), of(-9, -9, 2, 2)},
		{"touching side", r, of(4, 0, 8, 4), none, of(0, 0, 8, 4)},
		{"touching below", r, of(0, 4, 4, 8), none, of(0, 0, 4, 8)},
		{"touching corner", r, of(4, 4, 8, 8), none, of(0, 0, 8, 8)},
		{"apart in x", r, of(6, 1, 8, 3), none, of(0, 0, 8, 4)},
		{"apart in y", r, of(1, 6, 3, 8), none, of(0, 0, 4, 8)},
		{"apart in both", r, of(6, 7, 8, 9), none, of(0, 0, 8, 9)},
		{"touching 0", of(-4, -4, 0, 0), r, none, of(-4, -4, 4, 4)},
		{"zero rectangle around 0", of(-1, -1, 1, 1), none, none, of(-1, -1, 1, 1)},
		{"zero rectangle elsewhere", of(3, 3, 4, 4), none, none, of(3, 3, 4, 4)},
		{"zero rectangle before 0", of(-4, -4, -3, -3), none, none, of(-4, -4, -3, -3)},
		{"zero rectangle twice", none, none, none, none},
		{"all points", whole, r, r, whole},
		{"opposite corners", of(-m, -m, 1-m, 1-m), of(m-1, m-1, m, m), none, whole},
		{"a strip across", of(-m, 0, m, 1), of(0, -m, 1, m), of(0, 0, 1, 1), whole},
	} {
		for _, p := range [][2]api.Rect{{c.a, c.b}, {c.b, c.a}} {
			if got := Intersect(p[0], p[1]); got != c.both {
				t.Errorf("%s: Intersect(%v, %v) = %v", c.name, p[0], p[1], got)
			}
			if got := Hull(p[0], p[1]); got != c.hull {
				t.Errorf("%s: Hull(%v, %v) = %v", c.name, p[0], p[1], got)
			}
		}
	}
}

// P2.2, rectangles that are not valid.
func TestIntersectHullInvalid(t *testing.T) {
	for _, c := range invalid {
		for _, r := range []api.Rect{none, of(0, 0, 1, 1), of(2, 2, 5, 5), whole, c.r} {
			for _, p := range [][2]api.Rect{{c.r, r}, {r, c.r}} {
				if got := Intersect(p[0], p[1]); got != none {
					t.Errorf("%s: Intersect(%v, %v) = %v", c.name, p[0], p[1], got)
				}
				if got := Hull(p[0], p[1]); got != none {
					t.Errorf("%s: Hull(%v, %v) = %v", c.name, p[0], p[1], got)
				}
			}
		}
	}
}

// P2.3.
func TestOutsetCases(t *testing.T) {
	r := of(0, 0, 4, 4)
	corner := of(-m, -m, 1-m, 1-m)
	for _, c := range []struct {
		name                     string
		r                        api.Rect
		left, top, right, bottom int
		want                     api.Rect
	}{
		{"four numbers", r, 1, 2, 3, 4, of(-1, -2, 7, 8)},
		{"nothing", r, 0, 0, 0, 0, r},
		{"left", r, 5, 0, 0, 0, of(-5, 0, 4, 4)},
		{"top", r, 0, 5, 0, 0, of(0, -5, 4, 4)},
		{"right", r, 0, 0, 5, 0, of(0, 0, 9, 4)},
		{"bottom", r, 0, 0, 0, 5, of(0, 0, 4, 9)},
		{"zero rectangle", none, 1, 1, 1, 1, none},
		{"zero rectangle and nothing", none, 0, 0, 0, 0, none},
		{"to all points", r, m, m, m - 4, m - 4, whole},
		{"the greatest numbers", of(0, 0, 1, 1), m, m, m - 1, m - 1, whole},
		{"the greatest numbers on the other sides", of(-1, -1, 0, 0), m - 1, m - 1, m, m, whole},
		{"the greatest number from the bound", corner, 0, 0, m, m, of(-m, -m, 1, 1)},
		{"left beyond the bound", of(-3, 0, 4, 4), m - 2, 0, 0, 0, none},
		{"top beyond the bound", of(0, -3, 4, 4), 0, m - 2, 0, 0, none},
		{"right beyond the bound", r, 0, 0, m - 3, 0, none},
		{"bottom beyond the bound", r, 0, 0, 0, m - 3, none},
		{"all points and one more", whole, 1, 0, 0, 0, none},
		{"all points and nothing", whole, 0, 0, 0, 0, whole},
		{"negative left", r, -1, 0, 0, 0, none},
		{"negative top", r, 0, -1, 0, 0, none},
		{"negative right", r, 0, 0, -1, 0, none},
		{"negative bottom", r, 0, 0, 0, -1, none},
		{"negative left with the others greater", r, -1, 3, 3, 3, none},
		{"least ints", r, math.MinInt, math.MinInt, math.MinInt, math.MinInt, none},
		{"left too great", of(m-2, 0, m, 4), m + 1, 0, 0, 0, none},
		{"top too great", of(0, m-2, 4, m), 0, m + 1, 0, 0, none},
		{"right too great", corner, 0, 0, m + 1, 0, none},
		{"bottom too great", corner, 0, 0, 0, m + 1, none},
		{"greatest left", r, math.MaxInt, 0, 0, 0, none},
		{"greatest top", r, 0, math.MaxInt, 0, 0, none},
		{"greatest right", r, 0, 0, math.MaxInt, 0, none},
		{"greatest bottom", r, 0, 0, 0, math.MaxInt, none},
		{"valid only after it is outset", of(1, 1, 1, 1), 1, 1, 1, 1, none},
		{"reversed, valid only after it is outset", of(2, 0, 1, 5), 3, 0, 3, 0, none},
	} {
		if got := Outset(c.r, c.left, c.top, c.right, c.bottom); got != c.want {
			t.Errorf("%s: Outset(%v, %d, %d, %d, %d) = %v", c.name, c.r, c.left, c.top, c.right, c.bottom, got)
		}
	}
	for _, c := range invalid {
		for n := range 2 {
			if got := Outset(c.r, n, n, n, n); got != none {
				t.Errorf("%s: Outset(%v) by %d = %v", c.name, c.r, n, got)
			}
		}
	}
}

// P2.4.
func TestSubtractCases(t *testing.T) {
	a := of(0, 0, 4, 4)
	for _, c := range []struct {
		name string
		a, b api.Rect
		want []api.Rect
	}{
		{"example 2", a, of(1, 1, 2, 2), []api.Rect{of(0, 0, 4, 1), of(0, 1, 1, 2), of(2, 1, 4, 2), of(0, 2, 4, 4)}},
		{"above only", a, of(-1, 3, 9, 9), []api.Rect{of(0, 0, 4, 3)}},
		{"left only", a, of(1, 0, 4, 4), []api.Rect{of(0, 0, 1, 4)}},
		{"right only", a, of(-3, -3, 1, 7), []api.Rect{of(1, 0, 4, 4)}},
		{"below only", a, of(0, 0, 4, 1), []api.Rect{of(0, 1, 4, 4)}},
		{"above and below", a, of(-5, 1, 9, 2), []api.Rect{of(0, 0, 4, 1), of(0, 2, 4, 4)}},
		{"left and right", a, of(2, 0, 3, 4), []api.Rect{of(0, 0, 2, 4), of(3, 0, 4, 4)}},
		{"first corner", a, of(-2, -2, 1, 1), []api.Rect{of(1, 0, 4, 1), of(0, 1, 4, 4)}},
		{"last corner", a, of(2, 2, 9, 9), []api.Rect{of(0, 0, 4, 2), of(0, 2, 2, 4)}},
		{"no common points", a, of(5, 5, 6, 6), []api.Rect{a}},
		{"touching side", a, of(4, 0, 8, 4), []api.Rect{a}},
		{"touching corner", a, of(-4, -4, 0, 0), []api.Rect{a}},
		{"b empty", a, none, []api.Rect{a}},
		{"b empty within a", of(-2, -2, 2, 2), none, []api.Rect{of(-2, -2, 2, 2)}},
		{"itself", a, a, nil},
		{"covered", a, of(-1, -1, 9, 9), nil},
		{"a empty", none, a, nil},
		{"a empty within b", none, of(-2, -2, 2, 2), nil},
		{"both empty", none, none, nil},
		{"all points", whole, of(-1, -2, 3, 4), []api.Rect{of(-m, -m, m, -2), of(-m, -2, -1, 4), of(3, -2, m, 4), of(-m, 4, m, m)}},
		{"all points but the first", whole, of(-m, -m, 1-m, 1-m), []api.Rect{of(1-m, -m, m, 1-m), of(-m, 1-m, m, m)}},
		{"a single point", of(m-1, m-1, m, m), whole, nil},
	} {
		if got := Subtract(c.a, c.b); !slices.Equal(got, c.want) {
			t.Errorf("%s: Subtract(%v, %v) = %v", c.name, c.a, c.b, got)
		}
	}
	for _, c := range invalid {
		for _, r := range []api.Rect{none, of(0, 0, 1, 1), a, whole, c.r} {
			if x, y := Subtract(c.r, r), Subtract(r, c.r); len(x) != 0 || len(y) != 0 {
				t.Errorf("%s: Subtract of %v and %v = %v, %v", c.name, c.r, r, x, y)
			}
		}
	}
}

type point struct{ x, y int }

// side is the range of the coordinates in the comparisons with sets of points: from -side to side.
const side = 2

// small lists all rectangles, valid or not, with coordinates of the range.
func small() []api.Rect {
	var l []api.Rect
	for x0 := -side; x0 <= side; x0++ {
		for y0 := -side; y0 <= side; y0++ {
			for x1 := -side; x1 <= side; x1++ {
				for y1 := -side; y1 <= side; y1++ {
					l = append(l, of(x0, y0, x1, y1))
				}
			}
		}
	}
	return l
}

// has is the definition of the points of a rectangle, and of valid rectangles with small coordinates.
func has(r api.Rect, p point) bool { return r.X0 <= p.x && p.x < r.X1 && r.Y0 <= p.y && p.y < r.Y1 }

func isValid(r api.Rect) bool { return r.X0 < r.X1 && r.Y0 < r.Y1 || r == none }

// pick lists the points of the range with a property, row by row.
func pick(is func(p point) bool) []point {
	var l []point
	for y := -side; y <= side; y++ {
		for x := -side; x <= side; x++ {
			if is(point{x, y}) {
				l = append(l, point{x, y})
			}
		}
	}
	return l
}

// box is the least valid rectangle with the points of l.
func box(l []point) api.Rect {
	if len(l) == 0 {
		return none
	}
	r := of(l[0].x, l[0].y, l[0].x+1, l[0].y+1)
	for _, p := range l {
		r = of(min(r.X0, p.x), min(r.Y0, p.y), max(r.X1, p.x+1), max(r.Y1, p.y+1))
	}
	return r
}

// rest is what Subtract is due to return, from the points of a.
func rest(a, b api.Rect) []api.Rect {
	if !isValid(a) || !isValid(b) {
		return nil
	}
	both := box(pick(func(p point) bool { return has(a, p) && has(b, p) }))
	if both == none {
		if a == none {
			return nil
		}
		return []api.Rect{a}
	}
	rows := func(p point) bool { return both.Y0 <= p.y && p.y < both.Y1 }
	var parts []api.Rect
	for _, is := range []func(p point) bool{
		func(p point) bool { return p.y < both.Y0 },
		func(p point) bool { return rows(p) && p.x < both.X0 },
		func(p point) bool { return rows(p) && p.x >= both.X1 },
		func(p point) bool { return p.y >= both.Y1 },
	} {
		if part := box(pick(func(p point) bool { return has(a, p) && is(p) })); part != none {
			parts = append(parts, part)
		}
	}
	return parts
}

// P2.1, for all small rectangles.
func TestPointsOfOne(t *testing.T) {
	for _, r := range small() {
		points := pick(func(p point) bool { return isValid(r) && has(r, p) })
		if Valid(r) != isValid(r) || Empty(r) != (r == none) || Area(r) != len(points) {
			t.Fatalf("Valid, Empty, Area of %v = %v, %v, %d", r, Valid(r), Empty(r), Area(r))
		}
		for _, p := range pick(func(point) bool { return true }) {
			if Contains(r, p.x, p.y) != slices.Contains(points, p) {
				t.Fatalf("Contains(%v, %d, %d)", r, p.x, p.y)
			}
		}
	}
}

// P2.1 Inside, P2.2 and P2.4, for all pairs of small rectangles.
func TestPointsOfTwo(t *testing.T) {
	for _, a := range small() {
		for _, b := range small() {
			var both, hull api.Rect
			inside := isValid(a) && isValid(b)
			if inside {
				both = box(pick(func(p point) bool { return has(a, p) && has(b, p) }))
				hull = box(pick(func(p point) bool { return has(a, p) || has(b, p) }))
				inside = len(pick(func(p point) bool { return has(a, p) && !has(b, p) })) == 0
			}
			if Intersect(a, b) != both || Hull(a, b) != hull || Inside(a, b) != inside {
				t.Fatalf("%v, %v: Intersect %v, Hull %v, Inside %v", a, b, Intersect(a, b), Hull(a, b), Inside(a, b))
			}
			if got := Subtract(a, b); !slices.Equal(got, rest(a, b)) {
				t.Fatalf("Subtract(%v, %v) = %v", a, b, got)
			}
		}
	}
}

// P2.3, for all small rectangles and outsets.
func TestOutsetOfSmall(t *testing.T) {
	for _, r := range small() {
		for _, n := range small() {
			var want api.Rect
			if isValid(r) && r != none && min(n.X0, n.Y0, n.X1, n.Y1) >= 0 {
				want = of(r.X0-n.X0, r.Y0-n.Y0, r.X1+n.X1, r.Y1+n.Y1)
			}
			if got := Outset(r, n.X0, n.Y0, n.X1, n.Y1); got != want {
				t.Fatalf("Outset(%v) by %v = %v", r, n, got)
			}
		}
	}
}

// P2.2, consequences: both operations are associative on valid rectangles.
func TestAssociative(t *testing.T) {
	l := []api.Rect{none, of(0, 0, 1, 1), of(0, 0, 4, 4), of(2, 1, 9, 3), of(-3, -3, 0, 0), of(4, 4, 5, 5), whole}
	for _, a := range l {
		for _, b := range l {
			for _, c := range l {
				if Intersect(Intersect(a, b), c) != Intersect(a, Intersect(b, c)) {
					t.Errorf("Intersect of %v, %v and %v", a, b, c)
				}
				if Hull(Hull(a, b), c) != Hull(a, Hull(b, c)) {
					t.Errorf("Hull of %v, %v and %v", a, b, c)
				}
			}
		}
	}
}

// P2.4 and R2: writing into a result of Subtract changes no other result.
func TestSubtractResultsAreNew(t *testing.T) {
	a := of(0, 0, 4, 4)
	for _, b := range []api.Rect{of(1, 1, 2, 2), none} {
		first := Subtract(a, b)
		want := slices.Clone(first)
		second := Subtract(a, b)
		for i := range first {
			first[i] = of(7, 7, 8, 8)
		}
		if !slices.Equal(second, want) || !slices.Equal(Subtract(a, b), want) {
			t.Errorf("Subtract(%v, %v): results share memory", a, b)
		}
	}
}
