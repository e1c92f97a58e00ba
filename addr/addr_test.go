package addr_test

import (
	"math"
	"math/big"
	"slices"
	"testing"

	"vitrine/addr"
	"vitrine/api"
)

// sizes are the models, and small and narrow sizes, in which every edge is near.
func sizes() []addr.Size {
	return []addr.Size{
		{Rows: 24, Cols: 80}, {Rows: 32, Cols: 80}, {Rows: 43, Cols: 80}, {Rows: 27, Cols: 132},
		{Rows: 1, Cols: 1}, {Rows: 1, Cols: 7}, {Rows: 7, Cols: 1}, {Rows: 3, Cols: 5}, {Rows: 43, Cols: 82}, {Rows: 1, Cols: 132},
	}
}

func invalidSizes() []addr.Size {
	return []addr.Size{
		{}, {Rows: 0, Cols: 80}, {Rows: 24, Cols: 0}, {Rows: -1, Cols: 80}, {Rows: 24, Cols: -1}, {Rows: -3, Cols: -5},
		{Rows: 44, Cols: 1}, {Rows: 1, Cols: 133}, {Rows: 44, Cols: 133}, {Rows: 43, Cols: 83}, {Rows: 28, Cols: 128}, {Rows: 43, Cols: 132},
		{Rows: math.MaxInt, Cols: 1}, {Rows: 1, Cols: math.MaxInt}, {Rows: math.MinInt, Cols: math.MinInt},
		{Rows: 1 << 32, Cols: 1 << 32}, {Rows: math.MaxInt, Cols: math.MaxInt}, {Rows: math.MinInt, Cols: 1},
	}
}

// numbers are positions of any size, and numbers that stand for positions, up to the greatest.
func numbers() []int {
	l := []int{
		math.MinInt, math.MinInt + 1, math.MaxInt, math.MaxInt - 1, math.MinInt32, math.MaxInt32,
		-3565, -3564, -3563, -1921, -1920, -1919, -133, -132, -81, -80, -79, 79, 80, 81, 131, 132, 133,
		1839, 1840, 1919, 1920, 1921, 3563, 3564, 3565, 5000, 1 << 40, -1 << 40,
	}
	for n := -16; n <= 31; n++ {
		l = append(l, n)
	}
	return l
}

// sumModulo adds without wrapping round, and takes the remainder that is not below 0.
func sumModulo(modulus int, terms ...int) int {
	sum := new(big.Int)
	for _, n := range terms {
		sum.Add(sum, big.NewInt(int64(n)))
	}
	return int(sum.Mod(sum, big.NewInt(int64(modulus))).Int64())
}

// P4.1: the models.
func TestModel(t *testing.T) {
	for n, want := range map[int]addr.Size{
		2: {Rows: 24, Cols: 80}, 3: {Rows: 32, Cols: 80}, 4: {Rows: 43, Cols: 80}, 5: {Rows: 27, Cols: 132},
	} {
		if s, e := addr.Model(n); s != want || e != api.OK {
			t.Errorf("Model(%d) is %v, %d", n, s, e)
		}
	}
	for _, n := range []int{0, 1, 6, -2, -5, 24, 258, math.MaxInt, math.MinInt} {
		if s, e := addr.Model(n); s != (addr.Size{}) || e != api.ErrNone {
			t.Errorf("Model(%d) is %v, %d", n, s, e)
		}
	}
}

// P4.1: the sizes that are valid, up to the limits.
func TestValidAndCells(t *testing.T) {
	for rows := -2; rows <= 46; rows++ {
		for cols := -2; cols <= 135; cols++ {
			s := addr.Size{Rows: rows, Cols: cols}
			valid := rows >= 1 && rows <= 43 && cols >= 1 && cols <= 132 && rows*cols <= 3564
			cells := 0
			if valid {
				cells = rows * cols
			}
			if s.Valid() != valid || s.Cells() != cells {
				t.Errorf("%v: Valid is %v, Cells is %d", s, s.Valid(), s.Cells())
			}
		}
	}
	for _, s := range sizes() {
		if !s.Valid() || s.Cells() != s.Rows*s.Cols {
			t.Errorf("%v: Valid is %v, Cells is %d", s, s.Valid(), s.Cells())
		}
	}
}

// P4.1, P4.2 and P1: an invalid size has no positions.
func TestInvalidSizes(t *testing.T) {
	for _, s := range invalidSizes() {
		if s.Valid() || s.Cells() != 0 {
			t.Errorf("%v: Valid is %v, Cells is %d", s, s.Valid(), s.Cells())
		}
		for _, n := range numbers() {
			if s.Wrap(n) != 0 || s.Row(n) != 0 || s.Col(n) != 0 || s.Line(n) != 0 {
				t.Errorf("%v: Wrap, Row, Col or Line of %d is not 0", s, n)
			}
			if s.At(n, 1) != 0 || s.At(1, n) != 0 || s.Move(n, 1, 1) != 0 || s.Move(1, n, 1) != 0 || s.Move(1, 1, n) != 0 {
				t.Errorf("%v: At or Move with %d is not 0", s, n)
			}
			if s.Length(n, 1) != 0 || s.Length(1, n) != 0 || s.Length(n, n) != 0 {
				t.Errorf("%v: Length with %d is not 0", s, n)
			}
			for at := range s.Span(n, 1) {
				t.Fatalf("%v: Span(%d, 1) yields %d", s, n, at)
			}
			for at := range s.Span(n, n) {
				t.Fatalf("%v: Span(%d, %d) yields %d", s, n, n, at)
			}
		}
	}
}

// P4.1: each position has its row and column, and is at them.
func TestPlaces(t *testing.T) {
	for _, s := range sizes() {
		n := 0
		for row := range s.Rows {
			for col := range s.Cols {
				if s.At(row, col) != n || s.Row(n) != row || s.Col(n) != col || s.Wrap(n) != n {
					t.Fatalf("%v: %d is at %d, %d", s, n, s.Row(n), s.Col(n))
				}
				if want := (row + 1) % s.Rows * s.Cols; s.Line(n) != want {
					t.Fatalf("%v: Line(%d) is %d, want %d", s, n, s.Line(n), want)
				}
				n++
			}
		}
	}
}

// P4.1: any number stands for a position.
func TestNumbersThatStandForPositions(t *testing.T) {
	for _, s := range sizes() {
		for _, n := range numbers() {
			want := sumModulo(s.Rows*s.Cols, n)
			if s.Wrap(n) != want {
				t.Errorf("%v: Wrap(%d) is %d, want %d", s, n, s.Wrap(n), want)
			}
			if s.Row(n) != want/s.Cols || s.Col(n) != want%s.Cols {
				t.Errorf("%v: %d is at %d, %d", s, n, s.Row(n), s.Col(n))
			}
			if line := (want/s.Cols + 1) % s.Rows * s.Cols; s.Line(n) != line {
				t.Errorf("%v: Line(%d) is %d, want %d", s, n, s.Line(n), line)
			}
			for _, m := range numbers() {
				if at := sumModulo(s.Rows, n)*s.Cols + sumModulo(s.Cols, m); s.At(n, m) != at {
					t.Errorf("%v: At(%d, %d) is %d, want %d", s, n, m, s.At(n, m), at)
				}
			}
		}
	}
}

// P4.1: first by positions around the screen, then by rows around the column; no sum wraps round.
func TestMove(t *testing.T) {
	for _, s := range []addr.Size{{Rows: 3, Cols: 5}, {Rows: 24, Cols: 80}, {Rows: 1, Cols: 7}, {Rows: 7, Cols: 1}} {
		for _, n := range numbers() {
			for _, rows := range numbers() {
				for _, cols := range numbers() {
					at := sumModulo(s.Rows*s.Cols, n, cols)
					want := sumModulo(s.Rows, at/s.Cols, rows)*s.Cols + at%s.Cols
					if got := s.Move(n, rows, cols); got != want {
						t.Fatalf("%v: Move(%d, %d, %d) is %d, want %d", s, n, rows, cols, got, want)
					}
				}
			}
		}
	}
}

// P4.1: the examples, and what is told apart by the order of columns and rows.
func TestMoveExamples(t *testing.T) {
	s, _ := addr.Model(2)
	for _, c := range [][4]int{
		{1919, 1, 0, 79}, {1919, 0, 1, 0}, {0, -1, 0, 1840}, {0, 0, -1, 1919}, {79, 0, 1, 80}, {1919, 1, 1, 80},
		{5, 24, 0, 5}, {5, 0, 1920, 5}, {5, 25, 81, 166}, {0, -1, -1, 1839}, {-1, 0, 0, 1919}, {1920, 0, 0, 0},
	} {
		if got := s.Move(c[0], c[1], c[2]); got != c[3] {
			t.Errorf("Move(%d, %d, %d) is %d, want %d", c[0], c[1], c[2], got, c[3])
		}
	}
}

// walk goes from one position to another step by step, as Span is specified.
func walk(s addr.Size, from, to int) []int {
	cells := s.Rows * s.Cols
	from, to = sumModulo(cells, from), sumModulo(cells, to)
	l := []int{from}
	for at := (from + 1) % cells; at != to; at = (at + 1) % cells {
		l = append(l, at)
	}
	return l
}

// P4.2: spans, around the screen and of the whole of it.
func TestSpanAndLength(t *testing.T) {
	for _, s := range []addr.Size{{Rows: 3, Cols: 5}, {Rows: 1, Cols: 1}, {Rows: 1, Cols: 7}, {Rows: 7, Cols: 1}} {
		for _, from := range numbers() {
			for _, to := range numbers() {
				want := walk(s, from, to)
				if got := slices.Collect(s.Span(from, to)); !slices.Equal(got, want) {
					t.Fatalf("%v: Span(%d, %d) is %v, want %v", s, from, to, got, want)
				}
				if got := s.Length(from, to); got != len(want) {
					t.Fatalf("%v: Length(%d, %d) is %d, want %d", s, from, to, got, len(want))
				}
			}
		}
	}
}

// P4.2: spans of the models.
func TestSpanOfModels(t *testing.T) {
	for _, s := range sizes() {
		cells := s.Cells()
		for _, c := range [][2]int{{0, 0}, {cells - 1, cells - 1}, {cells / 2, cells / 2}, {cells - 1, 0}, {0, cells - 1}, {cells - 2, 3}, {0, cells}, {-1, 1}} {
			want := walk(s, c[0], c[1])
			if got := slices.Collect(s.Span(c[0], c[1])); !slices.Equal(got, want) {
				t.Errorf("%v: Span(%d, %d) has %d positions, want %d", s, c[0], c[1], len(got), len(want))
			}
			if got := s.Length(c[0], c[1]); got != len(want) {
				t.Errorf("%v: Length(%d, %d) is %d, want %d", s, c[0], c[1], got, len(want))
			}
		}
	}
}

// P4.2 with fixed answers, so that it does not hang on walk.
func TestSpanExamples(t *testing.T) {
	s := addr.Size{Rows: 2, Cols: 3}
	for _, c := range []struct {
		from, to int
		want     []int
	}{
		{1, 4, []int{1, 2, 3}},
		{4, 1, []int{4, 5, 0}},
		{5, 0, []int{5}},
		{0, 5, []int{0, 1, 2, 3, 4}},
		{2, 2, []int{2, 3, 4, 5, 0, 1}},
		{2, 8, []int{2, 3, 4, 5, 0, 1}},
		{-1, 7, []int{5, 0}},
	} {
		if got := slices.Collect(s.Span(c.from, c.to)); !slices.Equal(got, c.want) {
			t.Errorf("Span(%d, %d) is %v", c.from, c.to, got)
		}
		if got := s.Length(c.from, c.to); got != len(c.want) {
			t.Errorf("Length(%d, %d) is %d", c.from, c.to, got)
		}
	}
}

// The rule of iterators: the same each time, and nothing after a stop.
func TestSpanAgainAndStopped(t *testing.T) {
	span, want := addr.Size{Rows: 3, Cols: 5}.Span(13, 2), []int{13, 14, 0, 1}
	for range 2 {
		if got := slices.Collect(span); !slices.Equal(got, want) {
			t.Errorf("Span: %v", got)
		}
	}
	for stop := range want {
		var got []int
		for n := range span {
			got = append(got, n)
			if len(got) == stop+1 {
				break
			}
		}
		if !slices.Equal(got, want[:stop+1]) {
			t.Errorf("Span, stopped after %d: %v", stop+1, got)
		}
	}
}
