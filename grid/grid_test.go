package grid

import (
	"math"
	"slices"
	"testing"

	"tilefarm/api"
	"tilefarm/rect"
)

// size is a plane of w x h with tiles of tw x th.
type size struct{ w, h, tw, th int }

func from(x0, y0, x1, y1 int) api.Rect { return api.Rect{X0: x0, Y0: y0, X1: x1, Y1: y1} }

// tiles is the definition of the grid without a division: the tiles row by row, and how many there are in a row and in
// a column.
func tiles(s size) (all []api.Rect, columns, rows int) {
	for y := 0; y < s.h; y += s.th {
		rows++
		columns = 0
		for x := 0; x < s.w; x += s.tw {
			columns++
			all = append(all, from(x, y, min(x+s.tw, s.w), min(y+s.th, s.h)))
		}
	}
	return all, columns, rows
}

// has reports whether (x, y) is a point of r.
func has(r api.Rect, x, y int) bool {
	return r.X0 <= x && x < r.X1 && r.Y0 <= y && y < r.Y1
}

// share reports whether a and b have a point in common, by every point of a.
func share(a, b api.Rect) bool {
	for y := a.Y0; y < a.Y1; y++ {
		for x := a.X0; x < a.X1; x++ {
			if has(b, x, y) {
				return true
			}
		}
	}
	return false
}

// small lists all sizes of planes up to side x side with all tiles up to one beyond that.
func small(side int) []size {
	var all []size
	for w := 1; w <= side; w++ {
		for h := 1; h <= side; h++ {
			for tw := 1; tw <= side+1; tw++ {
				for th := 1; th <= side+1; th++ {
					all = append(all, size{w, h, tw, th})
				}
			}
		}
	}
	return all
}

// great lists sizes at the limits.
var great = []size{
	{api.MaxSide, api.MaxSide, api.MaxTile, api.MaxTile},
	{api.MaxSide, api.MaxSide, 1, 1},
	{api.MaxSide, api.MaxSide, 63, 5},
	{api.MaxSide, 1, api.MaxTile, 1},
	{1, api.MaxSide, 1, api.MaxTile},
	{65, 64, api.MaxTile, api.MaxTile},
	{64, 65, api.MaxTile, api.MaxTile},
	{127, 128, 43, 3},
	{1, 1, api.MaxTile, api.MaxTile},
}

// beyond lists sizes of which one number at least is out of range.
var beyond = []struct {
	name string
	size size
}{
	{"all 0", size{0, 0, 0, 0}},
	{"w 0", size{0, 3, 2, 2}},
	{"h 0", size{5, 0, 2, 2}},
	{"tw 0", size{5, 3, 0, 2}},
	{"th 0", size{5, 3, 2, 0}},
	{"w -1", size{-1, 3, 2, 2}},
	{"h -1", size{5, -1, 2, 2}},
	{"tw -1", size{5, 3, -1, 2}},
	{"th -1", size{5, 3, 2, -1}},
	{"w and tw negative", size{-5, 3, -2, 2}},
	{"h and th negative", size{5, -3, 2, -2}},
	{"all negative", size{-5, -3, -2, -2}},
	{"w beyond MaxSide", size{api.MaxSide + 1, 3, 2, 2}},
	{"h beyond MaxSide", size{5, api.MaxSide + 1, 2, 2}},
	{"tw beyond MaxTile", size{5, 3, api.MaxTile + 1, 2}},
	{"th beyond MaxTile", size{5, 3, 2, api.MaxTile + 1}},
	{"tw beyond MaxTile, but not beyond w", size{128, 3, api.MaxTile + 1, 2}},
	{"th beyond MaxTile, but not beyond h", size{5, 128, 2, api.MaxTile + 1}},
	{"w beyond MaxSide, one tile", size{api.MaxSide + 1, 1, api.MaxTile, 1}},
	{"w least int", size{math.MinInt, 3, 2, 2}},
	{"h least int", size{5, math.MinInt, 2, 2}},
	{"tw least int", size{5, 3, math.MinInt, 2}},
	{"th least int", size{5, 3, 2, math.MinInt}},
	{"w greatest int", size{math.MaxInt, 3, 2, 2}},
	{"h greatest int", size{5, math.MaxInt, 2, 2}},
	{"tw greatest int", size{5, 3, math.MaxInt, 2}},
	{"th greatest int", size{5, 3, 2, math.MaxInt}},
	{"w least int, tw -1", size{math.MinInt, 3, -1, 2}},
	{"h least int, th -1", size{5, math.MinInt, 2, -1}},
	{"all greatest int", size{math.MaxInt, math.MaxInt, math.MaxInt, math.MaxInt}},
	{"all least int", size{math.MinInt, math.MinInt, math.MinInt, math.MinInt}},
}

// P5.1: Count.
func TestCountCases(t *testing.T) {
	for _, c := range []struct {
		name          string
		size          size
		columns, rows int
	}{
		{"the chapter's example", size{5, 3, 2, 2}, 3, 2},
		{"tiles that fit", size{6, 4, 2, 2}, 3, 2},
		{"columns and rows by different tiles", size{6, 6, 1, 3}, 6, 2},
		{"one pixel", size{1, 1, 1, 1}, 1, 1},
		{"a tile as large as the plane", size{5, 3, 5, 3}, 1, 1},
		{"a tile larger than the plane", size{5, 3, 6, 4}, 1, 1},
		{"a tile one less than the plane", size{5, 3, 4, 2}, 2, 2},
		{"the greatest tile on one pixel", size{1, 1, api.MaxTile, api.MaxTile}, 1, 1},
		{"the greatest plane", size{api.MaxSide, api.MaxSide, 1, 1}, 128, 128},
		{"the greatest plane and tile", size{api.MaxSide, api.MaxSide, api.MaxTile, api.MaxTile}, 2, 2},
	} {
		columns, rows := Count(c.size.w, c.size.h, c.size.tw, c.size.th)
		if columns != c.columns || rows != c.rows {
			t.Errorf("%s: Count%v = %d, %d, want %d, %d", c.name, c.size, columns, rows, c.columns, c.rows)
		}
	}
}

// P5.1: Tile.
func TestTileCases(t *testing.T) {
	for _, c := range []struct {
		name string
		size size
		i    int
		want api.Rect
	}{
		{"the first", size{5, 3, 2, 2}, 0, from(0, 0, 2, 2)},
		{"the second of a row", size{5, 3, 2, 2}, 1, from(2, 0, 4, 2)},
		{"smaller at the right edge", size{5, 3, 2, 2}, 2, from(4, 0, 5, 2)},
		{"smaller at the lower edge", size{5, 3, 2, 2}, 3, from(0, 2, 2, 3)},
		{"smaller at both edges", size{5, 3, 2, 2}, 5, from(4, 2, 5, 3)},
		{"as large as the plane", size{5, 3, 5, 3}, 0, from(0, 0, 5, 3)},
		{"larger than the plane", size{5, 3, 64, 64}, 0, from(0, 0, 5, 3)},
		{"the last of the greatest plane", size{128, 128, 1, 1}, 16383, from(127, 127, 128, 128)},
		{"the last of the greatest tiles", size{128, 128, 64, 64}, 3, from(64, 64, 128, 128)},
		{"the last row of a column", size{1, 128, 1, 1}, 127, from(0, 127, 1, 128)},
		{"the last column of a row", size{128, 1, 1, 1}, 127, from(127, 0, 128, 1)},
	} {
		r, ok := Tile(c.size.w, c.size.h, c.size.tw, c.size.th, c.i)
		if !ok || r != c.want {
			t.Errorf("%s: Tile(%v, %d) = %v, %v, want %v, true", c.name, c.size, c.i, r, ok, c.want)
		}
	}
}

// P5.1: there is no tile below 0, and none beyond the last one.
func TestTileNone(t *testing.T) {
	for _, s := range append(small(4), great...) {
		all, columns, _ := tiles(s)
		for _, i := range []int{
			-1, -columns, -len(all), len(all), len(all) + 1, len(all) + columns, math.MinInt, math.MinInt + 1, math.MaxInt,
		} {
			if r, ok := Tile(s.w, s.h, s.tw, s.th, i); ok || r != (api.Rect{}) {
				t.Fatalf("Tile(%v, %d) = %v, %v, want the zero rectangle, false", s, i, r, ok)
			}
		}
	}
}

// P5.1: Of.
func TestOfCases(t *testing.T) {
	for _, c := range []struct {
		name string
		size size
		x, y int
		want int
	}{
		{"the first point", size{5, 3, 2, 2}, 0, 0, 0},
		{"the last point of the first tile", size{5, 3, 2, 2}, 1, 1, 0},
		{"the first point of the second tile", size{5, 3, 2, 2}, 2, 0, 1},
		{"the last column", size{5, 3, 2, 2}, 4, 1, 2},
		{"the last row", size{5, 3, 2, 2}, 1, 2, 3},
		{"the last point", size{5, 3, 2, 2}, 4, 2, 5},
		{"the last point of a plane of one tile", size{5, 3, 64, 64}, 4, 2, 0},
		{"the last point of the greatest plane", size{128, 128, 1, 1}, 127, 127, 16383},
	} {
		i, ok := Of(c.size.w, c.size.h, c.size.tw, c.size.th, c.x, c.y)
		if !ok || i != c.want {
			t.Errorf("%s: Of(%v, %d, %d) = %d, %v, want %d, true", c.name, c.size, c.x, c.y, i, ok, c.want)
		}
	}
}

// P5.1: points outside of the plane are in no tile, also where a tile of full size would reach beyond the edge.
func TestOfNone(t *testing.T) {
	for _, s := range append(small(4), great...) {
		for _, p := range [][2]int{
			{-1, 0}, {0, -1}, {-1, -1}, {-s.tw, 0}, {0, -s.th}, {s.w, 0}, {0, s.h}, {s.w, s.h}, {s.w - 1, s.h}, {s.w, s.h - 1},
			{s.w, -1}, {-1, s.h}, {math.MinInt, 0}, {0, math.MinInt}, {math.MaxInt, 0}, {0, math.MaxInt},
			{math.MinInt, math.MinInt}, {math.MaxInt, math.MaxInt},
		} {
			if i, ok := Of(s.w, s.h, s.tw, s.th, p[0], p[1]); ok || i != 0 {
				t.Fatalf("Of(%v, %d, %d) = %d, %v, want 0, false", s, p[0], p[1], i, ok)
			}
		}
	}
}

// P5.1: Count, Tile and Of against tiles that are laid one after the other.
func TestGridByDefinition(t *testing.T) {
	for _, s := range append(small(6), great...) {
		all, columns, rows := tiles(s)
		if c, r := Count(s.w, s.h, s.tw, s.th); c != columns || r != rows {
			t.Fatalf("Count%v = %d, %d, want %d, %d", s, c, r, columns, rows)
		}
		for i, want := range all {
			if r, ok := Tile(s.w, s.h, s.tw, s.th, i); !ok || r != want {
				t.Fatalf("Tile(%v, %d) = %v, %v, want %v, true", s, i, r, ok, want)
			}
			for y := want.Y0; y < want.Y1; y++ {
				for x := want.X0; x < want.X1; x++ {
					if of, ok := Of(s.w, s.h, s.tw, s.th, x, y); !ok || of != i {
						t.Fatalf("Of(%v, %d, %d) = %d, %v, want %d, true", s, x, y, of, ok, i)
					}
				}
			}
		}
	}
}

// Each point of the plane is in exactly one tile.
func TestPointsAreInOneTile(t *testing.T) {
	for _, s := range append(small(5), great[2:]...) {
		count := make([]int, s.w*s.h)
		columns, rows := Count(s.w, s.h, s.tw, s.th)
		for i := range columns * rows {
			r, _ := Tile(s.w, s.h, s.tw, s.th, i)
			if rect.Empty(r) || !rect.Inside(r, from(0, 0, s.w, s.h)) {
				t.Fatalf("%v: tile %d is %v", s, i, r)
			}
			for y := r.Y0; y < r.Y1; y++ {
				for x := r.X0; x < r.X1; x++ {
					count[y*s.w+x]++
				}
			}
		}
		if slices.Min(count) != 1 || slices.Max(count) != 1 {
			t.Fatalf("%v: points are in %d to %d tiles", s, slices.Min(count), slices.Max(count))
		}
	}
}

// P5.1 and P5.2: sizes that are out of range have no tiles.
func TestSizesBeyond(t *testing.T) {
	for _, c := range beyond {
		s := c.size
		if columns, rows := Count(s.w, s.h, s.tw, s.th); columns != 0 || rows != 0 {
			t.Errorf("%s: Count = %d, %d, want 0, 0", c.name, columns, rows)
		}
		for _, i := range []int{-1, 0, 1, 5, math.MinInt, math.MaxInt} {
			if r, ok := Tile(s.w, s.h, s.tw, s.th, i); ok || r != (api.Rect{}) {
				t.Errorf("%s: Tile %d = %v, %v, want the zero rectangle, false", c.name, i, r, ok)
			}
		}
		for _, p := range [][2]int{{0, 0}, {4, 2}, {-1, -1}, {math.MinInt, math.MinInt}, {math.MaxInt, math.MaxInt}} {
			if i, ok := Of(s.w, s.h, s.tw, s.th, p[0], p[1]); ok || i != 0 {
				t.Errorf("%s: Of %v = %d, %v, want 0, false", c.name, p, i, ok)
			}
		}
		for _, r := range []api.Rect{{}, from(0, 0, 1, 1), from(1, 1, 3, 2), from(-9, -9, 9, 9), from(-9, -9, 0, 0)} {
			if l := Touching(s.w, s.h, s.tw, s.th, r); len(l) > 0 {
				t.Errorf("%s: Touching %v = %v, want nothing", c.name, r, l)
			}
		}
	}
}

// P5.2.
func TestTouchingCases(t *testing.T) {
	for _, c := range []struct {
		name string
		r    api.Rect
		want []int
	}{
		{"the chapter's example", from(1, 1, 3, 2), []int{0, 1}},
		{"the whole plane", from(0, 0, 5, 3), []int{0, 1, 2, 3, 4, 5}},
		{"more than the plane", from(-1, -1, 6, 4), []int{0, 1, 2, 3, 4, 5}},
		{"the greatest rectangle", from(-api.MaxCoord, -api.MaxCoord, api.MaxCoord, api.MaxCoord), []int{0, 1, 2, 3, 4, 5}},
		{"one point", from(3, 1, 4, 2), []int{1}},
		{"a tile", from(2, 0, 4, 2), []int{1}},
		{"a tile and one column to its left", from(1, 0, 4, 2), []int{0, 1}},
		{"a tile and one column to its right", from(2, 0, 5, 2), []int{1, 2}},
		{"a tile and one row below it", from(2, 0, 4, 3), []int{1, 4}},
		{"a tile and one row above it", from(2, 1, 4, 3), []int{1, 4}},
		{"the point where four tiles meet", from(1, 1, 3, 3), []int{0, 1, 3, 4}},
		{"the last point and points beyond it", from(4, 2, 90, 90), []int{5}},
		{"the first point and points before it", from(-90, -90, 1, 1), []int{0}},
		{"a row across", from(-3, 1, 9, 2), []int{0, 1, 2}},
		{"a column across", from(2, -3, 3, 9), []int{1, 4}},
		{"left of the plane", from(-3, 0, 0, 3), nil},
		{"above the plane", from(0, -3, 5, 0), nil},
		{"right of the plane, within a tile of full size", from(5, 0, 6, 2), nil},
		{"below the plane, within a tile of full size", from(0, 3, 2, 4), nil},
		{"behind the last corner", from(5, 3, 9, 9), nil},
		{"far away", from(api.MaxCoord-1, api.MaxCoord-1, api.MaxCoord, api.MaxCoord), nil},
		{"empty", api.Rect{}, nil},
	} {
		if l := Touching(5, 3, 2, 2, c.r); !slices.Equal(l, c.want) {
			t.Errorf("%s: Touching %v = %v, want %v", c.name, c.r, l, c.want)
		}
	}
}

// P5.2: a rectangle that is not valid touches no tile.
func TestTouchingInvalid(t *testing.T) {
	for _, r := range []api.Rect{
		from(1, 1, 1, 1), from(1, 0, 1, 3), from(0, 1, 5, 1), from(3, 0, 1, 3), from(0, 2, 5, 1), from(5, 3, 0, 0),
		from(-api.MaxCoord-1, 0, 5, 3), from(0, -api.MaxCoord-1, 5, 3), from(0, 0, api.MaxCoord+1, 3),
		from(0, 0, 5, api.MaxCoord+1), from(math.MinInt, math.MinInt, math.MaxInt, math.MaxInt),
		from(math.MaxInt, math.MaxInt, math.MinInt, math.MinInt), from(0, 0, math.MaxInt, math.MaxInt),
		from(math.MinInt, 0, 1, 1), from(0, math.MinInt, 1, 1),
	} {
		for _, s := range []size{{5, 3, 2, 2}, {5, 3, 64, 64}, {128, 128, 64, 64}, {1, 1, 1, 1}} {
			if l := Touching(s.w, s.h, s.tw, s.th, r); len(l) > 0 {
				t.Errorf("Touching(%v, %v) = %v, want nothing", s, r, l)
			}
		}
	}
}

// P5.2: Touching against the points of every tile, for all rectangles around small planes.
func TestTouchingByDefinition(t *testing.T) {
	for _, s := range []size{{5, 3, 2, 2}, {3, 5, 2, 1}, {4, 4, 2, 2}, {4, 4, 1, 3}, {1, 5, 1, 3}, {3, 3, 3, 3}, {3, 2, 7, 9}} {
		all, _, _ := tiles(s)
		for x0 := -2; x0 <= s.w+1; x0++ {
			for y0 := -2; y0 <= s.h+1; y0++ {
				for x1 := x0 - 1; x1 <= s.w+2; x1++ {
					for y1 := y0 - 1; y1 <= s.h+2; y1++ {
						compareTouching(t, s, all, from(x0, y0, x1, y1))
					}
				}
			}
		}
	}
}

// P5.2: the same for sizes at the limits, with rectangles at and around the edges of tiles.
func TestTouchingGreat(t *testing.T) {
	for _, s := range great {
		all, _, _ := tiles(s)
		for _, r := range []api.Rect{
			from(0, 0, s.w, s.h), from(0, 0, 1, 1), from(s.w-1, s.h-1, s.w, s.h), from(0, s.h-1, s.w, s.h), from(s.w-1, 0, s.w, s.h),
			from(s.tw-1, s.th-1, s.tw+1, s.th+1), from(s.tw, s.th, s.tw+1, s.th+1), from(s.tw-1, s.th-1, s.tw, s.th),
			from(-5, -5, s.w+5, s.h+5), from(s.w, s.h, s.w+1, s.h+1), from(-1, -1, 0, 0),
		} {
			compareTouching(t, s, all, r)
		}
	}
}

func compareTouching(t *testing.T, s size, all []api.Rect, r api.Rect) {
	t.Helper()
	var want []int
	for i, tile := range all {
		if share(tile, r) {
			want = append(want, i)
		}
	}
	if l := Touching(s.w, s.h, s.tw, s.th, r); !slices.Equal(l, want) {
		t.Fatalf("Touching(%v, %v) = %v, want %v", s, r, l, want)
	}
}

// R2: results of Touching share no memory.
func TestTouchingIsNew(t *testing.T) {
	first := Touching(5, 3, 2, 2, from(0, 0, 5, 3))
	for i := range first {
		first[i] = -1
	}
	if l := Touching(5, 3, 2, 2, from(0, 0, 5, 3)); !slices.Equal(l, []int{0, 1, 2, 3, 4, 5}) {
		t.Errorf("Touching after writing into its result = %v", l)
	}
}
