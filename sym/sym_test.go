package sym

import (
	"math"
	"slices"
	"strings"
	"testing"

	"scrinium/api"
)

// far are numbers that are no symbol and no level, up to the ends of int.
func far() []int {
	return []int{-1, -2, -255, -256, -257, 257, 258, 511, 512, 513, 1 << 16, math.MaxInt32, math.MinInt32, math.MaxInt, math.MinInt, math.MinInt + 1}
}

func TestP101OfIsTheByteAndOne(t *testing.T) {
	for b, want := range map[byte]int{0: 1, 1: 2, 'a': 98, 127: 128, 128: 129, 254: 255, 255: 256} {
		if got := Of(b); got != want {
			t.Errorf("Of(%d): %d, not %d", b, got, want)
		}
	}
	for b := range 256 {
		if got := Of(byte(b)); got != b+1 {
			t.Errorf("Of(%d): %d, not %d", b, got, b+1)
		}
	}
}

func TestP101ByteIsTheWayBack(t *testing.T) {
	for s := 1; s <= 256; s++ {
		if b, is := Byte(s); !is || int(b) != s-1 || Of(b) != s {
			t.Errorf("Byte(%d): %d %v", s, b, is)
		}
	}
}

func TestP101ByteOfNoByte(t *testing.T) {
	for _, s := range append(far(), 0) {
		if b, is := Byte(s); is || b != 0 {
			t.Errorf("Byte(%d): %d %v, not 0 false", s, b, is)
		}
	}
}

// bitsOf writes a symbol's bits, level 0 first.
func bitsOf(s int) string {
	var out strings.Builder
	for level := range api.Levels {
		if Bit(s, level) {
			out.WriteByte('1')
		} else {
			out.WriteByte('0')
		}
	}
	return out.String()
}

func TestP101BitFromTheGreatestOn(t *testing.T) {
	for s, want := range map[int]string{
		0:   "000000000",
		1:   "000000001",
		2:   "000000010",
		98:  "001100010",
		128: "010000000",
		255: "011111111",
		256: "100000000",
	} {
		if got := bitsOf(s); got != want {
			t.Errorf("bits of %d: %s, not %s", s, got, want)
		}
	}
}

func TestP101BitsTogetherAreTheSymbol(t *testing.T) {
	for s := range api.Symbols {
		sum := 0
		for level := range api.Levels {
			sum *= 2
			if Bit(s, level) {
				sum++
			}
		}
		if sum != s {
			t.Errorf("the bits of %d are %d", s, sum)
		}
	}
}

func TestP101BitOutsideIsFalse(t *testing.T) {
	for _, s := range far() {
		for level := -1; level <= api.Levels; level++ {
			if Bit(s, level) {
				t.Errorf("Bit(%d, %d) is true", s, level)
			}
		}
	}
	for s := range api.Symbols {
		for _, level := range append(far(), api.Levels, api.Levels+1, 63, 64) {
			if Bit(s, level) {
				t.Errorf("Bit(%d, %d) is true", s, level)
			}
		}
	}
}

func TestP101TextIsOfAtMostMaxTextBytes(t *testing.T) {
	for n, want := range map[int]bool{0: true, 1: true, api.MaxText - 1: true, api.MaxText: true, api.MaxText + 1: false, 10 * api.MaxText: false} {
		if got := Text(strings.Repeat("x", n)); got != want {
			t.Errorf("Text of %d bytes: %v", n, got)
		}
	}
}

func TestP101TextCountsBytesNotRunes(t *testing.T) {
	two := "\u00e9"
	if !Text(strings.Repeat(two, api.MaxText/2)) || Text(strings.Repeat(two, api.MaxText/2+1)) {
		t.Error("Text does not count bytes")
	}
	if !Text(strings.Repeat("\xff", api.MaxText)) || !Text(strings.Repeat("\x00", api.MaxText)) {
		t.Error("Text asks which bytes they are")
	}
}

func TestP101AllHasEachByteAndNoTerminator(t *testing.T) {
	for s, want := range map[string][]int{
		"":               {},
		"a":              {98},
		"ab\x00\xff":     {98, 99, 1, 256},
		"\u00e9":         {0xc3 + 1, 0xa9 + 1},
		"\xff\xc3\x80aa": {256, 196, 129, 98, 98},
	} {
		if got := All(s); !slices.Equal(got, want) {
			t.Errorf("All(%q): %v, not %v", s, got, want)
		}
	}
	every := make([]byte, 256)
	for i := range every {
		every[i] = byte(i)
	}
	for i, s := range All(string(every)) {
		if s != i+1 {
			t.Errorf("byte %d is %d in All", i, s)
		}
	}
}

func TestP101AllOfMoreThanADocument(t *testing.T) {
	if got := All(strings.Repeat("x", api.MaxText+1)); len(got) != api.MaxText+1 || got[api.MaxText] != 'x'+1 {
		t.Errorf("All of %d bytes: %v", api.MaxText+1, got)
	}
}

func TestP101AllIsNewEachTime(t *testing.T) {
	first := All("abc")
	first[0] = -7
	_ = append(first[:1], -7, -7)
	if got := All("abc"); !slices.Equal(got, []int{98, 99, 100}) {
		t.Errorf("All after its last answer was written to: %v", got)
	}
}
