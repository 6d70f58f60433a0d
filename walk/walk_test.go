package walk

import (
	"math"
	"math/rand"
	"slices"
	"strings"
	"testing"
)

// identical holds two places against each other bit by bit, so that -0 is not 0.
func identical(a, b complex128) bool {
	return math.Float64bits(real(a)) == math.Float64bits(real(b)) && math.Float64bits(imag(a)) == math.Float64bits(imag(b))
}

// plain tells that no part is -0.
func plain(z complex128) bool {
	return !(real(z) == 0 && math.Signbit(real(z))) && !(imag(z) == 0 && math.Signbit(imag(z)))
}

// naive walks with whole numbers.
func naive(s string) (xs, ys []int) {
	x, y := 0, 0
	xs, ys = append(xs, x), append(ys, y)
	for _, b := range []byte(s) {
		switch b % 4 {
		case 0:
			x++
		case 1:
			y++
		case 2:
			x--
		case 3:
			y--
		}
		xs, ys = append(xs, x), append(ys, y)
	}
	return xs, ys
}

func place(x, y int) complex128 { return complex(float64(x), float64(y)) }

// texts are some that are told by hand, and many that are drawn, always the same.
func texts() []string {
	l := []string{"", "\x00", "\x01", "\x02", "\x03", "\x00\x02", "\x02\x00", "\x01\x03", "\x03\x01",
		"\x02\x02\x03\x03\x03", "\x00\x01\x02\x03", "abracadabra", "\u00e9\u20ac", "\xff\xfe\xfd\xfc", strings.Repeat("\x03", 200), strings.Repeat("\x02\x00", 50)}
	draw := rand.New(rand.NewSource(2))
	for range 300 {
		b := make([]byte, draw.Intn(80))
		for i := range b {
			b[i] = byte(draw.Intn(256))
		}
		l = append(l, string(b))
	}
	return l
}

func TestP201StepIsAPowerOfI(t *testing.T) {
	want := []complex128{1, complex(0, 1), -1, complex(0, -1)}
	for b := range 256 {
		if got := Step(byte(b)); !identical(got, want[b%4]) {
			t.Errorf("Step(%d): %v, not %v", b, got, want[b%4])
		}
	}
}

func TestP201EndIsTheSumOfAllSteps(t *testing.T) {
	if got := End("\x00\x01"); !identical(got, complex(1, 1)) {
		t.Errorf("End of bytes 0, 1: %v", got)
	}
	for _, s := range texts() {
		xs, ys := naive(s)
		if got, want := End(s), place(xs[len(s)], ys[len(s)]); !identical(got, want) {
			t.Errorf("End(%q): %v, not %v", s, got, want)
		}
	}
}

func TestP201EndOfALongText(t *testing.T) {
	if got := End(strings.Repeat("\x00\x03\x03", 100000)); !identical(got, complex(100000, -200000)) {
		t.Errorf("End of a long text: %v", got)
	}
}

func TestP201PathIsAheadOfTheFirstAndBehindEach(t *testing.T) {
	if got := Path(""); len(got) != 1 || !identical(got[0], 0) {
		t.Errorf("Path of an empty text: %v", got)
	}
	for _, s := range texts() {
		xs, ys := naive(s)
		got := Path(s)
		if len(got) != len(s)+1 {
			t.Errorf("Path(%q) has %d places", s, len(got))
			continue
		}
		for i, z := range got {
			if !identical(z, place(xs[i], ys[i])) {
				t.Errorf("Path(%q)[%d]: %v, not %d, %d", s, i, z, xs[i], ys[i])
			}
		}
	}
}

func TestP201PathIsNewEachTime(t *testing.T) {
	first := Path("\x00\x01")
	first[0], first[1], first[2] = 7, 7, 7
	if got := Path("\x00\x01"); !slices.Equal(got, []complex128{0, 1, complex(1, 1)}) {
		t.Errorf("Path after its last answer was written to: %v", got)
	}
}

func TestP201TurnByQuarters(t *testing.T) {
	z := complex(3, -4)
	turned := []complex128{z, complex(4, 3), complex(-3, 4), complex(-4, -3)}
	for quarters := -40; quarters <= 40; quarters++ {
		if got, want := Turn(z, quarters), turned[(quarters+40)%4]; !identical(got, want) {
			t.Errorf("Turn(%v, %d): %v, not %v", z, quarters, got, want)
		}
	}
}

func TestP201TurnByTheEndsOfInt(t *testing.T) {
	z := complex(2, 7)
	for quarters, want := range map[int]complex128{
		math.MaxInt:     complex(7, -2),
		math.MaxInt - 1: complex(-2, -7),
		math.MinInt:     z,
		math.MinInt + 1: complex(-7, 2),
		-1:              complex(7, -2),
	} {
		if got := Turn(z, quarters); !identical(got, want) {
			t.Errorf("Turn(%v, %d): %v, not %v", z, quarters, got, want)
		}
	}
}

func TestP201TurnIsExact(t *testing.T) {
	for _, z := range []complex128{
		complex(math.MaxFloat64, math.MaxFloat64), complex(math.MaxFloat64, -math.SmallestNonzeroFloat64),
		complex(0.1, 1e300), complex(1<<53-1, -(1<<53 - 1)), complex(math.SmallestNonzeroFloat64, 1.0/3),
	} {
		re, im := real(z), imag(z)
		for quarters, want := range []complex128{z, complex(-im, re), complex(-re, -im), complex(im, -re)} {
			if got := Turn(z, quarters); !identical(got, want) {
				t.Errorf("Turn(%v, %d): %v, not %v", z, quarters, got, want)
			}
			if got := Turn(Turn(z, quarters), -quarters); !identical(got, z) {
				t.Errorf("%v there and back by %d: %v", z, quarters, got)
			}
		}
	}
}

func TestP201TurnTellsNoZeroWithASign(t *testing.T) {
	zero := math.Copysign(0, -1)
	for _, re := range []float64{0, zero, 5, -5, 0.5} {
		for _, im := range []float64{0, zero, 5, -5, 0.5} {
			for quarters := -5; quarters <= 5; quarters++ {
				if got := Turn(complex(re, im), quarters); !plain(got) {
					t.Errorf("Turn(%v, %d): %v", complex(re, im), quarters, got)
				}
			}
		}
	}
}

func TestP201ApartIsTheFewestSteps(t *testing.T) {
	for _, c := range []struct {
		a, b complex128
		want int
	}{
		{0, 0, 0}, {7, 7, 0}, {0, 1, 1}, {0, complex(0, -1), 1},
		{complex(1, 2), complex(-3, 5), 7}, {complex(-3, -5), complex(-4, -9), 5},
		{complex(3, 4), 0, 7}, {complex(-1000000, 1000000), complex(1000000, -1000000), 4000000},
		{complex(math.MaxInt32, 0), complex(-math.MaxInt32, 0), 2 * math.MaxInt32},
	} {
		if got := Apart(c.a, c.b); got != c.want {
			t.Errorf("Apart(%v, %v): %d, not %d", c.a, c.b, got, c.want)
		}
		if got := Apart(c.b, c.a); got != c.want {
			t.Errorf("Apart(%v, %v): %d, not %d", c.b, c.a, got, c.want)
		}
	}
}

// TestP201ApartAsAWalkWouldGo asks how far apart all places of a small square are by going there.
func TestP201ApartAsAWalkWouldGo(t *testing.T) {
	far := map[complex128]int{0: 0}
	for edge, n := []complex128{0}, 1; n <= 6; n++ {
		var next []complex128
		for _, z := range edge {
			for b := range 4 {
				to := z + Step(byte(b))
				if _, been := far[to]; !been {
					far[to] = n
					next = append(next, to)
				}
			}
		}
		edge = next
	}
	for z, n := range far {
		if got := Apart(complex(-2, 3), complex(-2, 3)+z); got != n {
			t.Errorf("%v is %d apart, not %d", z, got, n)
		}
	}
}

func TestP201BoxHoldsThePath(t *testing.T) {
	for _, s := range texts() {
		xs, ys := naive(s)
		least, greatest := Box(s)
		if want := place(slices.Min(xs), slices.Min(ys)); !identical(least, want) {
			t.Errorf("Box(%q): from %v, not %v", s, least, want)
		}
		if want := place(slices.Max(xs), slices.Max(ys)); !identical(greatest, want) {
			t.Errorf("Box(%q): up to %v, not %v", s, greatest, want)
		}
	}
}

func TestP201BoxHasTheBeginning(t *testing.T) {
	for s, want := range map[string][2]complex128{
		"":                         {0, 0},
		"\x00\x00\x01":             {0, complex(2, 1)},
		"\x02\x02":                 {-2, 0},
		"\x03":                     {complex(0, -1), 0},
		"\x02\x03\x03\x00\x00\x00": {complex(-1, -2), 2},
	} {
		if least, greatest := Box(s); !identical(least, want[0]) || !identical(greatest, want[1]) {
			t.Errorf("Box(%q): %v %v, not %v", s, least, greatest, want)
		}
	}
}
